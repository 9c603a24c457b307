import PyProof.Rows.All
import HandS.Defaults
import Wide.All
import OpenK.AllK
import Wide.FinOn
import HandS.Wide
import HandS.Base
import HandS.Call
import HandS.List
import HandS.Comp
import HandS.Ends
import HandS.Dict
import HandS.Iter
import HandS.Text
import HandS.Words
import HandS.Codes
import HandS.IsInst
import HandS.MakeKwOnly
import HandS.DictComp
import HandS.DictEq
import HandS.More
import HandS.Conv
import HandS.FStr
import HandS.Style
import KE.KDictZip
import KE.KFmtOwn
import HandS.Walk
import HandS.Lambda
import HandS.Nested
import KE.KDictKeyed
import KE.KDictCopyH
import KE.KDictDisplayH
import PySem.Challenge.RW_raisekeys_k19_sizes_and_flat_scripts
import HandS.Head0
import HandS.Head1
import HandS.Head2
import HandS.HeadEnd
import HandS.HeadHook1
import HandS.HeadHook2
import HandS.HeadHook3
import HandS.HeadHook4
import HandS.Deep
import HandS.WordsDict
import KE.GoesMore
import PyProof.EnumMake
import KE.SortData
import HandS.Zip
import HandS.WideBits
import HandS.TupLe
import KE.DataMinMax
import HandS.SetKeys
import HandS.Strs
import HandS.SetFor
import PyProof.Rows.SetFrom
import PyProof.DictUpdate
import PyProof.DictDisplay
import PyProof.ReprRoads
import HandS.Exc
import HandS.ExcOwn
import HandS.TryMany
import HandS.ExcCtx
import HandS.ExcField
import HandS.HotCalls
import HandS.ClsMeth
import HandS.ExcInit
import KE.KExcInit
import PyProof.ExcFactsAll.LookupError
import PyProof.ExcFactsAll.IndexError
import HandS.WordsExc
import PyProof.StrLawsRepr
import HandS.EndTab
import HandS.NestedK
import KE.GoesZip
import HandS.Star
import HandS.SortKw
import HandS.ListItems
import HandS.TupSets
import HandS.SetBool
import HandS.TupAny
import HandS.Small
import HandS.DictTup
import KE.KDictSum
import KE.KDictWalk
import PyProof.CallFns
import PyProof.Rows.RegFStrParts
set_option Elab.async false
set_option linter.all false
set_option maxRecDepth 100000
set_option maxHeartbeats 4000000
namespace RK
open PySem PySem.Spec PyProof.Rows L2
section
variable {K : PySem.W.Frag} {x qual : Str} {params : Arguments} {body : List Stmt} {scope : Scope} {kws : List (Str × V)} {f : Addr} {fd : FuncData} {ps : List Str}
end
abbrev ag (s : Str) : Arg := { arg := s, annotation := none, pos := ⟨0, 0, 0, 0⟩ }
example {D : Addr} {doc pm : Value} {an : Option Addr} {cdv ct : Value} {x qual : Str} {body : List Stmt} {scope : Scope} {e1 e2 : Expr} (u1 u2 m w : Value) :
    KwChain D [(("fixed" : Str), m)] (bindArgs (PySem.W.fnOf x qual { posonlyargs := [], args := [ag "order", ag "wish"], vararg := none, kwonlyargs := [ag "costs", ag "fixed"], kw_defaults := [some e1, some e2], kwarg := none, defaults := [] } body scope .none (.ref D) doc pm an cdv ct) ⟨[u1, u2], [("costs", w)]⟩)
      [(("order" : Str), u1), ("wish", u2), ("costs", w), ("fixed", m)] := by
  exact ⟨_, _, _, _, _, _, rfl, rfl, rfl⟩
end RK
namespace RK
open PySem PySem.Spec PyProof.Rows L2
theorem same_new {H : Hp} {p : Addr} (h : H p = none) (o : HO) : Same H (upd H p o) := fun b u q => by rw [upd_ne (ne_of_none q h)]; exact q
def Keep (b : Addr) (H H' : Hp) : Prop := ∀ a o, a ≠ b → H a = some o → H' a = some o
theorem Keep.refl (b : Addr) (H : Hp) : Keep b H H := fun _ _ _ h => h
theorem Keep.trans {b : Addr} {H H1 H2 : Hp} (a : Keep b H H1) (c : Keep b H1 H2) : Keep b H H2 := fun x o n h => c x o n (a x o n h)
theorem Keep.of {b : Addr} {H H1 : Hp} (a : Same H H1) : Keep b H H1 := fun x o _ h => a x o h
theorem Keep.upd {b : Addr} {H H1 : Hp} {o : HO} (a : Keep b H H1) : Keep b H (upd H1 b o) := fun x u n h => by rw [upd_ne n]; exact a x u n h
theorem Keep.tup {b t : Addr} {H H1 : Hp} {xs ys : List V} (k : Keep b H H1) (hb : H b = some (.lst ys)) (h : H t = some (.tup xs)) : H1 t = some (.tup xs) := k t _ (ne_of h hb (by intro z; cases z)) h
theorem Keep.dK {b t : Addr} {H H1 : Hp} {xs : List (Key × V)} {ys : List V} (k : Keep b H H1) (hb : H b = some (.lst ys)) (h : H t = some (.dK xs)) : H1 t = some (.dK xs) := k t _ (ne_of h hb (by intro z; cases z)) h
theorem Keep.free {b l : Addr} {H H1 : Hp} (k : Keep b H H1) (n : l ≠ b) (h : H1 l = none) : H l = none := by
  cases q : H l with
  | none => rfl
  | some o =>
    rw [k l o n q] at h
    cases h
structure BagC (H : Hp) (b s : Addr) (ns : List Int) (i : Nat) (big salt : Int) : Prop where
  hb : H b = some (.lst [.ref s, .int i, .int big, .int salt])
  hs : H s = some (.lst (ns.map V.int))
  ne : s ≠ b
  hi : i ≤ ns.length
  hn : ns.length ≤ 63
  h0 : 0 ≤ big
  h1 : 0 ≤ salt
  h2 : salt < 2147483647
def Bag (b s : Addr) (H : Hp) : Prop := ∃ ns i big salt, BagC H b s ns i big salt
theorem Bag.hb {b s : Addr} {H : Hp} (B : Bag b s H) : ∃ ys, H b = some (.lst ys) := by
  obtain ⟨ns, i, big, salt, B⟩ := B
  exact ⟨_, B.hb⟩
theorem Bag.hs {b s : Addr} {H : Hp} (B : Bag b s H) : ∃ ys, H s = some (.lst ys) := by
  obtain ⟨ns, i, big, salt, B⟩ := B
  exact ⟨_, B.hs⟩
theorem Bag.ne {b s : Addr} {H : Hp} (B : Bag b s H) : s ≠ b := by
  obtain ⟨ns, i, big, salt, B⟩ := B
  exact B.ne
theorem Bag.same {b s : Addr} {H H1 : Hp} (B : Bag b s H) (e : Same H H1) : Bag b s H1 := by
  obtain ⟨ns, i, big, salt, B⟩ := B
  exact ⟨ns, i, big, salt, e _ _ B.hb, e _ _ B.hs, B.ne, B.hi, B.hn, B.h0, B.h1, B.h2⟩
theorem Bag.new {b s p : Addr} {H : Hp} {o : HO} (B : Bag b s H) (h : H p = none) : Bag b s (upd H p o) := B.same (same_new h o)
theorem Bag.upd {b s p : Addr} {H : Hp} {o : HO} (B : Bag b s H) (h1 : p ≠ b) (h2 : p ≠ s) : Bag b s (upd H p o) := by
  obtain ⟨ns, i, big, salt, B⟩ := B
  exact ⟨ns, i, big, salt, by rw [upd_ne h1.symm]; exact B.hb, by rw [upd_ne h2.symm]; exact B.hs, B.ne, B.hi, B.hn, B.h0, B.h1, B.h2⟩
theorem Keep.of_tup {b s t : Addr} {H H1 : Hp} {xs : List V} (k : Keep b H H1) (B : Bag b s H) (h : H t = some (.tup xs)) : H1 t = some (.tup xs) := by
  obtain ⟨ys, hb⟩ := B.hb
  exact k.tup hb h
theorem sz {n : Nat} (h : n ≤ 1000) : n ≤ sizeLine := Nat.le_of_lt (small1000 h)
def spBag (K : PySem.W.Frag) : Sp := fun vs H Q _ => ∃ (a : Addr) (ns : List Int), vs = [.ref a] ∧ SqL K H a (ns.map V.int) ∧ ns.length ≤ 63 ∧ ∀ H' b s, Same H H' → H b = none → H s = none → Bag b s H' → Q (.ref b) H'
theorem cdivw {n : Int} (h1 : 1 ≤ n) (h2 : n ≤ 10000000000000000000000000000000000000000) : CDivW 0 n := by
  refine ⟨by omega, ?_⟩
  have h3 : n.natAbs < 2 ^ 200 := by
    have e : (2 : Nat) ^ 200 = 1606938044258990275541962092341162602522202993782792835301376 := by decide +kernel
    rw [e]
    omega
  have := (Nat.log2_lt (by omega)).mpr h3
  omega
def NoT (H H' : Hp) : Prop := ∀ a ps, H' a = some (.tbl ps) → ∃ qs, H a = some (.tbl qs)
def Ntb : HO → Prop
  | .tbl _ => False
  | _ => True
theorem noT_upd {H : Hp} {p : Addr} {o : HO} (n : Ntb o) : NoT H (upd H p o) := fun a ps h => by
  by_cases e : a = p
  · rw [e, upd_same] at h
    cases h
    exact n.elim
  · rw [upd_ne e] at h
    exact ⟨_, h⟩
structure KeepT (b : Addr) (H H' : Hp) : Prop where
  f : Keep b H H'
  n : NoT H H'
theorem KeepT.refl (b : Addr) (H : Hp) : KeepT b H H := ⟨Keep.refl b H, fun _ _ z => ⟨_, z⟩⟩
theorem KeepT.upd {b : Addr} {H H1 : Hp} {xs : List V} (k : KeepT b H H1) : KeepT b H (upd H1 b (.lst xs)) := ⟨k.f.upd, fun a ps h => let ⟨qs, q⟩ := noT_upd (o := .lst xs) True.intro a ps h; k.n a qs q⟩
def spPull : Sp := fun vs H Q _ => ∃ (b s : Addr) (n : Int), vs = [.ref b, .int n] ∧ Bag b s H ∧ 1 ≤ n ∧ n ≤ 10000000000000000000000000000000000000000 ∧ ∀ r H', 0 ≤ r → r < n → KeepT b H H' → Bag b s H' → Q (.int r) H'
theorem cut63 (ns : List Int) (h : ns.length ≤ 63) : cutV (ns.map V.int) none (some 63) = ns.map V.int := by
  unfold cutV
  rw [HT.sIx_none, show HT.sIx (ns.map V.int).length (ns.map V.int).length (some 63) = min 63 (ns.map V.int).length from HT.sIx_nat _ _ 63]
  rw [List.drop_zero, List.length_map]
  exact List.take_of_length_le (by rw [List.length_map]; omega)
theorem at0 {α : Type} {x : α} {xs : List α} : atI (x :: xs) 0 = some x := atI_nat (j := 0) rfl
theorem at1 {α : Type} {x y : α} {xs : List α} : atI (x :: y :: xs) 1 = some y := atI_nat (j := 1) rfl
theorem at2 {α : Type} {x y z : α} {xs : List α} : atI (x :: y :: z :: xs) 2 = some z := atI_nat (j := 2) rfl
theorem at3 {α : Type} {x y z w : α} {xs : List α} : atI (x :: y :: z :: w :: xs) 3 = some w := atI_nat (j := 3) rfl
section
variable {X : Cx} {CX : CXT} {k : Nat} {f : Addr} {fd : FuncData} {ps ks : List Str} {sp : Sp} {E : XK} {x : Str} {p pos : Pos} {kws : List Keyword} {tk : TA} {g : List Value → List Value → List Value} {gV : List V → List V → List V}
theorem pe_callK0 (F : FnOk X.prog X.w X.K X.mg X.base CX k f fd ps sp) (hr : Room k X.A) (hg : Gl X x) (hm : X.mg x = some (.ref f)) (hk : PySem.W.keepIn X.K (.ref f) = true) (hb : KBinds X.K fd ps ks g gV) (hx : Passes CX X E) (hkw : PK X kws tk)
    (hall : (backToKw pos (keywordEach kws X.env)).all (·.1.isSome) = true := by rfl) (hks : (backToKw pos (keywordEach kws X.env)).filterMap (·.1) = ks := by rfl) (hdb : (x == ("__debug__" : Str)) = false := by decide)
    (hpl : ((backTo pos (starEach [] X.env)).any (·.1) || (backToKw pos (keywordEach kws X.env)).any (·.1.isNone)) = false := by rfl) :
    PE X (.Call (.Name x p) [] kws pos) (tCallK sp gV E tNil tk) := by
  refine ⟨fun pins s σ H Q I h => ?_⟩
  refine wpAny_Call_Name_kw (ld_glob I hg hm ?_ hdb)
  refine PySem.W.callWith_KW0 (h₀ := X.base) I.ok.mod.kin hk hall ?_ hpl
  refine thn (hkw.run pos pins s σ H _ I h) fun ws s2 ⟨zs, H2, I2, rz, q2⟩ => ⟨I2.kIn, ?_⟩
  rw [hks]
  exact run_fnk F hr hb hx I2 .nil rz q2
end
def rLenQ (K : PySem.W.Frag) : List V → Hp → VK → Prop := fun xs H Q => ∃ p ys, xs = [.ref p] ∧ (SqL K H p ys ∨ SqT K H p ys) ∧ Q (.int ys.length) H
theorem call_lenQ {X : Cx} : CallR X (.builtin "len") (rLenQ X.K) := call_len_seq
def rListQ (K : PySem.W.Frag) : List V → Hp → VK → Prop := fun xs H Q => ∃ p ys, xs = [.ref p] ∧ (SqL K H p ys ∨ SqT K H p ys) ∧ ∀ l, H l = none → Q (.ref l) (upd H l (.lst ys))
theorem call_listQ {X : Cx} : CallR X (.type "list") (rListQ X.K) := call_list_of
section
variable {K : PySem.W.Frag} {H H' : Hp}
theorem same_tup {a : Addr} {xs : List V} (e : Same H H') (h : SqT K H a xs) : SqT K H' a xs := by
  rcases h with (h | ⟨o, h⟩) | h
  · exact .inl (.inl (e _ _ h))
  · exact .inl (.inr ⟨o, e _ _ h⟩)
  · exact .inr h
mutual
theorem dp_same (e : Same H H') : ∀ {v : V} {d : PyData}, Dp K H v d → Dp K H' v d
  | _, _, .non => .non
  | _, _, .bl b => .bl b
  | _, _, .int i => .int i
  | _, _, .str x => .str x
  | _, _, .lst h a => .lst (e.seq h) (dpAll_same e a)
  | _, _, .tup h a => .tup (same_tup e h) (dpAll_same e a)
theorem dpAll_same (e : Same H H') : ∀ {vs : List V} {ds : List PyData}, DpAll K H vs ds → DpAll K H' vs ds
  | _, _, .nil => .nil
  | _, _, .cons h a => .cons (dp_same e h) (dpAll_same e a)
end
end
structure R where
  l : Int
  t : Int
  r : Int
  b : Int
def R.vs (p : R) : List V := [.int p.l, .int p.t, .int p.r, .int p.b]
def R.ds (p : R) : List PyData := [.int p.l, .int p.t, .int p.r, .int p.b]
def R.good (p : R) : Prop := -1000000000 ≤ p.l ∧ p.l ≤ 1000000000 ∧ -1000000000 ≤ p.t ∧ p.t ≤ 1000000000 ∧ -1000000000 ≤ p.r ∧ p.r ≤ 1000000000 ∧ -1000000000 ≤ p.b ∧ p.b ≤ 1000000000 ∧ p.l < p.r ∧ p.t < p.b
def R.has (p : R) (x y : Int) : Prop := p.l ≤ x ∧ x < p.r ∧ p.t ≤ y ∧ y < p.b
theorem R.dp {K : PySem.W.Frag} {H : Hp} (p : R) : DpAll K H p.vs p.ds := .cons (.int _) (.cons (.int _) (.cons (.int _) (.cons (.int _) .nil)))
end RK
namespace RK
open PySem PySem.Spec PyProof.Rows L2
section
variable {X : Cx}
inductive NotSub (K : PySem.W.Frag) (C : Addr) (H : Hp) : V → Prop
  | ins {a dx : Addr} {fs : List (Str × V)} : H a = some (.ins C dx fs) → NotSub K C H (.ref a)
  | dK {a : Addr} {kvs : List (Key × V)} : H a = some (.dK kvs) → PySem.W.subIn K (.type "dict") (.ref C) = some false → NotSub K C H (.ref a)
  | lst {a : Addr} {xs : List V} : H a = some (.lst xs) → PySem.W.subIn K (.type "list") (.ref C) = some false → NotSub K C H (.ref a)
end
end RK
namespace RK
open PySem PySem.Spec PyProof.Rows L2
section
open PySem.W
variable {prog : Program} {w : World} {K : PySem.W.Frag} {A : Around} {E : Value → Shared → Prop} {s : Shared} {x C f : Addr} {ox : Obj} {od : Option Obj}
open Builtin in
end
section
variable {X : Cx}
end
section
variable {X : Cx} {CX : CXT} {k : Nat} {f C : Addr} {fd : FuncData} {ps ks : List Str} {sp : Sp} {E : XK} {m : Str} {pos apos : Pos} {o : Expr} {kws : List Keyword} {ta : TE} {tk : TA} {g : List Value → List Value → List Value} {gV : List V → List V → List V}
end
end RK
namespace RK
open PySem PySem.Spec PyProof.Rows L2
theorem str_len (z : Str) : z.length = z.cps.toList.length := by
  show z.cps.size = _
  simp
theorem app_codes (a b : Str) : (a ++ b).cps.toList = a.cps.toList ++ b.cps.toList := by
  show (a.cps ++ b.cps).toList = _
  simp
theorem cut_codes (z : Str) (lo hi : Option Int) : (cutS z lo hi).cps.toList = (z.cps.toList.drop (HT.sIx z.length 0 lo)).take (HT.sIx z.length z.length hi - HT.sIx z.length 0 lo) := by
  unfold cutS
  simp
def Low (c : Nat) : Prop := 97 ≤ c ∧ c ≤ 122
def NameOk (z : Str) : Prop := 1 ≤ z.length ∧ z.length ≤ 6 ∧ ∀ c ∈ z.cps.toList, Low c
abbrev abc : Str := "abcdefghijklmnopqrstuvwxyz"
theorem abc_codes : abc.cps.toList = List.range' 97 26 := by decide +kernel
theorem abc_len : abc.length = 26 := by rw [str_len, abc_codes]; rfl
theorem abc_mem {c : Nat} : c ∈ abc.cps.toList ↔ Low c := by
  rw [abc_codes, List.mem_range'_1]
  unfold Low
  omega
theorem one_len (c : Nat) : (⟨#[c]⟩ : Str).length = 1 := rfl
theorem mul_codes (c : Nat) : ∀ n : Nat, 1 ≤ n → ∃ k, (Txt.mul ⟨#[c]⟩ (n : Int)).cps.toList = List.replicate k c ∧ k = n := by
  intro n hn
  refine ⟨n, ?_, rfl⟩
  unfold Txt.mul
  rw [if_neg (by omega)]
  by_cases h1 : n = 1
  · subst h1
    rfl
  · have e1 : (((n : Int) == 1) || (⟨#[c]⟩ : Str).length == 0) = false := by
      have : ((n : Int) == 1) = false := by simp; omega
      rw [this]
      rfl
    rw [e1, if_neg (by decide)]
    show ((List.replicate (n : Int).toNat #[c]).foldl (· ++ ·) #[]).toList = _
    rw [Int.toNat_natCast]
    have key : ∀ (m : Nat) (acc : Array Nat), ((List.replicate m #[c]).foldl (· ++ ·) acc).toList = acc.toList ++ List.replicate m c := by
      intro m
      induction m with
      | zero => intro acc; simp
      | succ m ih =>
        intro acc
        rw [List.replicate_succ, List.foldl_cons, ih]
        simp [List.replicate_succ]
    rw [key]
    rfl
section
variable {X : Cx}
theorem op_mul_str : OpR X (binaryOp .Mult) (fun x y H Q => ∃ (c : Nat) (n : Int), x = .str ⟨#[c]⟩ ∧ y = .int n ∧ 1 ≤ n ∧ n ≤ 1000 ∧ Q (.str (Txt.mul ⟨#[c]⟩ n)) H) := by
  intro pins s σ H x y u v Q I rx ry h
  obtain ⟨c, n, rfl, rfl, h1, h2, q⟩ := h
  obtain ⟨t, rfl⟩ := rx
  obtain ⟨k, rfl⟩ := ry
  refine PySem.SB.mul (x := ⟨#[c]⟩) ⟨?_, ?_, ?_⟩ (fun t' k' => ⟨.str _, H, I.tok _, ⟨_, rfl⟩, q⟩)
  · rw [decide_eq_false (by omega), decide_eq_false (by omega)]
    rfl
  · intro _ _
    have : (1 : Int) ≤ (2 ^ 63 - 1) / n := by
      rw [Int.le_ediv_iff_mul_le (by omega)]
      omega
    show ¬ ((1 : Int) > _)
    omega
  · intro _ _
    show Builtin.Str.tooLong (1 * n.toNat) = false
    rw [Nat.one_mul]
    have hn : n.toNat ≤ 1000 := by omega
    unfold Builtin.Str.tooLong
    exact decide_eq_false (by
      have : (1000 : Nat) ≤ sizeLine := by decide
      omega)
end
def leS (a b : Str) : Prop := ¬ b.cps.toList < a.cps.toList
end RK
namespace RK
open PySem PySem.Spec PyProof.Rows L2
abbrev W3 := Str × Addr × R
def kvOf (w : W3) : Key × V := (Sum.inr w.1, .ref w.2.1)
def putW (ws : List W3) (w : W3) : List W3 := if (ws.any fun v => decide (v.1 = w.1)) = true then ws.map (fun v => if v.1 = w.1 then w else v) else ws ++ [w]
def Names (ws : List W3) : List Str := ws.map (·.1)
theorem put_len (ws : List W3) (w : W3) : ws.length ≤ (putW ws w).length ∧ (putW ws w).length ≤ ws.length + 1 ∧ 1 ≤ (putW ws w).length := by
  unfold putW
  by_cases e : (ws.any fun v => decide (v.1 = w.1)) = true
  · rw [if_pos e, List.length_map]
    obtain ⟨v, hv, _⟩ := List.any_eq_true.mp e
    have := List.length_pos_of_mem hv
    omega
  · rw [if_neg e, List.length_append]
    show ws.length ≤ ws.length + 1 ∧ ws.length + 1 ≤ ws.length + 1 ∧ 1 ≤ ws.length + 1
    omega
structure Wins (H : Hp) (ws : List W3) : Prop where
  nd : (Names ws).Nodup
  nm : ∀ w ∈ ws, NameOk w.1
  at_ : ∀ w ∈ ws, H w.2.1 = some (.tup w.2.2.vs)
  gd : ∀ w ∈ ws, w.2.2.good
theorem Wins.same {H H' : Hp} {ws : List W3} (W : Wins H ws) (e : Same H H') : Wins H' ws := ⟨W.nd, W.nm, fun w hw => e _ _ (W.at_ w hw), W.gd⟩
theorem Wins.keep {b s : Addr} {H H' : Hp} {ws : List W3} (W : Wins H ws) (k : Keep b H H') (B : Bag b s H) : Wins H' ws := ⟨W.nd, W.nm, fun w hw => k.of_tup B (W.at_ w hw), W.gd⟩
theorem Wins.perm {H : Hp} {ws us : List W3} (W : Wins H ws) (p : us.Perm ws) : Wins H us := ⟨(List.Perm.map (fun x : W3 => x.1) p).nodup_iff.mpr W.nd, fun w hw => W.nm w (p.mem_iff.mp hw), fun w hw => W.at_ w (p.mem_iff.mp hw), fun w hw => W.gd w (p.mem_iff.mp hw)⟩
theorem Wins.sub {H : Hp} {ws us : List W3} (W : Wins H ws) (n : (Names us).Nodup) (h : ∀ w ∈ us, w ∈ ws) : Wins H us := ⟨n, fun w hw => W.nm w (h w hw), fun w hw => W.at_ w (h w hw), fun w hw => W.gd w (h w hw)⟩
def fldW (d : Addr) : List (Str × V) := [("windows", .ref d)]
structure DeskAt (C : Addr) (H : Hp) (p : Addr) (ws : List W3) : Prop where
  ex : ∃ dx d, H p = some (.ins C dx (fldW d)) ∧ H d = some (.dK (ws.map kvOf))
  win : Wins H ws
  so : (Names ws).Pairwise leS
theorem DeskAt.same {C : Addr} {H H' : Hp} {p : Addr} {ws : List W3} (D : DeskAt C H p ws) (e : Same H H') : DeskAt C H' p ws := by
  obtain ⟨⟨dx, d, h1, h2⟩, h3, h4⟩ := D
  exact ⟨⟨dx, d, e _ _ h1, e _ _ h2⟩, h3.same e, h4⟩
theorem DeskAt.keep {C b s : Addr} {H H' : Hp} {p : Addr} {ws : List W3} (D : DeskAt C H p ws) (k : Keep b H H') (B : Bag b s H) : DeskAt C H' p ws := by
  obtain ⟨⟨dx, d, h1, h2⟩, h3, h4⟩ := D
  obtain ⟨ys, hb⟩ := B.hb
  exact ⟨⟨dx, d, k _ _ (ne_of h1 hb (by intro z; cases z)) h1, k.dK hb h2⟩, h3.keep k B, h4⟩
theorem good_scaled {c x y x2 y2 : Int} (c0 : 1 ≤ c) (c1 : c ≤ 100000000) (a1 : -4 ≤ x) (a2 : x ≤ 4) (a3 : -4 ≤ y) (a4 : y ≤ 4) (a5 : x < x2) (a6 : x2 ≤ x + 4) (a7 : y < y2) (a8 : y2 ≤ y + 4) : (R.mk (c * x) (c * y) (c * x2) (c * y2)).good := by
  have up : ∀ z : Int, z ≤ 8 → c * z ≤ 1000000000 := fun z hz => by
    have h1 : c * z ≤ c * 8 := Int.mul_le_mul_of_nonneg_left hz (by omega)
    omega
  have lo : ∀ z : Int, -4 ≤ z → -1000000000 ≤ c * z := fun z hz => by
    have h1 : c * (-4) ≤ c * z := Int.mul_le_mul_of_nonneg_left hz (by omega)
    omega
  have lt : ∀ u v : Int, u < v → c * u < c * v := fun u v h => Int.mul_lt_mul_of_pos_left h (by omega)
  exact ⟨lo x a1, up x (by omega), lo y a3, up y (by omega), lo x2 (by omega), up x2 (by omega), lo y2 (by omega), up y2 (by omega), lt _ _ a5, lt _ _ a7⟩
end RK
namespace PySem.W
open PySem PySem.Spec PySem.Calls PyProof.Rows
abbrev kld_fn (name qual : Str) (params : Arguments) (body : Expr) (scope : Scope) (cl : List (Str × Addr)) (dV pm cdv ct : Value) : FuncData := { kla_fn name qual params body scope cl pm cdv ct with defaults := dV }
abbrev kld_obj (name qual : Str) (params : Arguments) (body : Expr) (scope : Scope) (clos : List (Str × Addr)) (dV pm cdv ctv : Value) : Obj :=
  { cls := .type "function", data := .func (kld_fn name qual params body scope clos dV pm cdv ctv) }
section
variable {M : Model} {A : Around} {E : Value → Shared → Prop} {s : Shared} {name qual : Str} {params : Arguments} {body : Expr} {scope : Scope} {env : Env} {c P : Addr} {ps : Array Value} {pos : Pos} {firstLine : Nat} {mg : Str → Option Value}
  {clos : List (Str × Addr)} {Q : Value → Shared → Prop} {dV : Value}
end
end PySem.W
namespace RK
open PySem PySem.Spec PyProof.Rows L2 LamX
structure LamD (N : List Str) (sc scope : Scope) : Prop where
  kind : scope.kind = .function
  co : scope.isCoroutine = false
  gen : scope.isGenerator = false
  own : ∀ y ∈ scope.names, y.2 ≠ .cell ∧ (y.2 = .local → y.1 ∉ N)
  free : ∀ y ∈ scope.names, y.2 = .free → sc.names.lookup y.1 = some .cell ∨ sc.names.lookup y.1 = some .free
theorem LamD.has {X : Cx} {N : List Str} {scope : Scope} (L : LamD N X.env.scope scope) (ok : X.Ok) : ∀ y ∈ scope.names, y.2 = .free → ∃ c, X.env.cells.lookup y.1 = some c := fun y hy e => by
  rcases L.free y hy e with k | k
  · exact ok.has _ (.inl k)
  · exact ok.has _ (.inr k)
section
variable {X : Cx} {pins : List (Addr × Obj)} {σ : L2.St} {H HZ : Hp} {s s1 : Shared}
end
end RK
namespace RK
open PySem PySem.Spec PyProof.Rows L2 LamX
section
variable {X : Cx} {pins : List (Addr × Obj)} {σ : L2.St} {H HZ : Hp} {s s1 : Shared}
end
end RK
namespace RK
open PySem PySem.Spec PyProof.Rows L2 LamX
structure LF where
  q : Str
  params : Arguments
  body : Expr
  scope : Scope
  cl : List (Str × Addr)
  c : Addr
  td : Option Addr
  dead : Bool
def LF.ob (F : LF) (pm ctv : Value) : Obj := match F.td with
  | none => PySem.W.kla_obj "<lambda>" F.q F.params F.body F.scope F.cl pm F.c ctv
  | some td => PySem.W.kld_obj "<lambda>" F.q F.params F.body F.scope F.cl (.ref td) pm (.ref F.c) ctv
def FnL (f : Addr) (F : LF) : HO := .ext fun h => ∃ pm ctv : Value, h.get? f = some (F.ob pm ctv)
def CellO (c : Addr) (v : V) : HO := .ext fun h => ∃ u : Value, RelV v u ∧ h.IsCell c (some u)
def CellsH (N : Addr → Prop) (H : Hp) : List (Str × Addr) → List V → Prop
  | [], [] => True
  | p :: ps, v :: vs => H p.2 = some (CellO p.2 v) ∧ ¬ N p.2 ∧ CellsH N H ps vs
  | _, _ => False
theorem CellsH.pres {N N' : Addr → Prop} {H H' : Hp} (k : ∀ a o, ¬ N a → H a = some o → ¬ N' a ∧ H' a = some o) : ∀ {ps : List (Str × Addr)} {vs : List V}, CellsH N H ps vs → CellsH N' H' ps vs
  | [], [], _ => True.intro
  | p :: ps, v :: vs, ⟨h, n, r⟩ => ⟨(k _ _ n h).2, (k _ _ n h).1, CellsH.pres k r⟩
  | [], _ :: _, h => h.elim
  | _ :: _, [], h => h.elim
structure FnH (N : Addr → Prop) (H : Hp) (f : Addr) (F : LF) (vs : List V) : Prop where
  at_ : H f = some (FnL f F)
  nf : ¬ N f
  code : H F.c = some (CodeO F.c F.q)
  nc : ¬ N F.c
  td : ∀ t, F.td = some t → H t = some (.tup [.int 0]) ∧ ¬ N t
  cells : F.dead = true → CellsH N H F.cl vs
theorem FnH.pres {N N' : Addr → Prop} {H H' : Hp} {f : Addr} {F : LF} {vs : List V} (k : ∀ a o, ¬ N a → H a = some o → ¬ N' a ∧ H' a = some o) (h : FnH N H f F vs) : FnH N' H' f F vs where
  at_ := (k _ _ h.nf h.at_).2
  nf := (k _ _ h.nf h.at_).1
  code := (k _ _ h.nc h.code).2
  nc := (k _ _ h.nc h.code).1
  td := fun t e => ⟨(k _ _ (h.td t e).2 (h.td t e).1).2, (k _ _ (h.td t e).2 (h.td t e).1).1⟩
  cells := fun d => (h.cells d).pres k
end RK
namespace RK
open PySem PySem.W PySem.Spec PyProof.Rows L2 LamX
abbrev BKey := Str × Bool
def lk (k : BKey) : List Leaf := [.text k.1, .num (if k.2 then 1 else 0)]
abbrev TrKv := BKey × Addr × V
abbrev TrKs := List Leaf × Addr × Value
abbrev TrPr : List TrKv → List TrKs → Prop := Paired fun p q => q.1 = lk p.1 ∧ q.2.1 = p.2.1 ∧ RelV p.2.2 q.2.2
def TrE (G : Program × World) (a : Addr) (xs : List TrKv) : Heap → Prop := fun h => xs.length ≤ sizeLine ∧ (a == sysModules) = false ∧ ∃ ys : List TrKs, TrPr xs ys ∧
  ∃ o es ep, h.get? a = some o ∧ o.ExactDict ∧ o.data = .dict es ep ∧ es.toList = ys.map (entryOfKey (tupleKind (leafKind G.1 G.2))) ∧ (ys.map (·.1)).Nodup
def TrO (G : Program × World) (a : Addr) (xs : List TrKv) : HO := .ext (TrE G a xs)
def IsTr (φ : Heap → Prop) : Prop := ∃ G a xs, φ = TrE G a xs
theorem no_tr {φ : Heap → Prop} (h : Heap) (p : φ h) (n : ∀ a o, h.get? a = some o → o.cls ≠ .type "dict") : ¬ IsTr φ := fun ⟨G, a, xs, e⟩ => by
  rw [e] at p
  obtain ⟨_, _, _, _, o, _, _, h1, h2, _⟩ := p
  exact n a o h1 h2.1
theorem get_rep {n a : Nat} {ob o : Obj} (h : ({ objs := Array.replicate n ob } : Heap).get? a = some o) : o = ob := by
  unfold Heap.get? at h
  split at h
  · cases h
  · have : (Array.replicate n ob)[a]? = some o := h
    rw [Array.getElem?_replicate] at this
    split at this
    · exact (Option.some.inj this).symm
    · cases this
theorem rep_get {n : Nat} {ob : Obj} (nf : ob.data ≠ .freed) : ({ objs := Array.replicate (n + 1) ob } : Heap).get? n = some ob := by
  have e : (Array.replicate (n + 1) ob)[n]? = some ob := by rw [Array.getElem?_replicate, if_pos (Nat.lt_succ_self n)]
  unfold Heap.get?
  show (match (Array.replicate (n + 1) ob)[n]? with | some { data := Data.freed, .. } => none | o => o) = some ob
  rw [e]
  obtain ⟨c, d, da, sl⟩ := ob
  cases da <;> first | rfl | exact absurd rfl nf
theorem codeO_tr (c : Addr) (q : Str) : ¬ IsTr (fun h => ∃ (oc : Obj) (vs : Array Value) (t : Tok), h.get? c = some oc ∧ oc.data = .fields vs ∧ vs[1]? = some (.str q t)) := by
  refine no_tr { objs := Array.replicate (c + 1) { cls := .none, data := .fields #[.none, .str q default] } } ⟨_, _, default, rep_get (fun z => nomatch z), rfl, rfl⟩ fun a o e => ?_
  rw [get_rep e]
  exact fun z => nomatch z
section
variable {P : Program} {w : World} {H : Hp} {h : Heap} {a : Addr} {xs : List TrKv}
end
section
variable {X : Cx} {pins : List (Addr × Obj)} {σ : L2.St} {H : Hp} {s : Shared} {a b : Addr} {xs : List TrKv} {k : BKey}
abbrev Cx.G (X : Cx) : Program × World := (X.prog, X.w)
end
end RK
namespace DL
open PySem PySem.Spec PyProof.Rows L2 RK
abbrev GdF := Unit → Program × World
inductive D where
  | non | bl (b : Bool) | int (i : Int) | str (x : Str)
  | lst (xs : List D) | tup (xs : List D) | ktp (xs : List D)
  | dic (kvs : List (Key × D)) | dct (kvs : List (List Key × D))
  | obj (C : Addr) (fs : List (Str × D))
  | bag
  | fn (F : LF) (ds : List D)
  | tr (G : GdF) (kvs : List (BKey × Option BKey))
instance : Inhabited D := ⟨.non⟩
def TrV (N : Addr → Prop) (H : Hp) : V → Option BKey → Prop
  | .non, none => True
  | .ref t, some k => H t = some (.tup [.str k.1, .bl k.2]) ∧ ¬ N t
  | _, _ => False
abbrev TrR (N : Addr → Prop) (H : Hp) : List TrKv → List (BKey × Option BKey) → Prop := Paired fun p q => p.1 = q.1 ∧ (H p.2.1 = some (.tup [.str p.1.1, .bl p.1.2]) ∧ ¬ N p.2.1) ∧ TrV N H p.2.2 q.2
theorem TrV.pres {N N' : Addr → Prop} {H H' : Hp} (k : ∀ a o, ¬ N a → H a = some o → ¬ N' a ∧ H' a = some o) : ∀ {v : V} {d : Option BKey}, TrV N H v d → TrV N' H' v d
  | .non, none, _ => True.intro
  | .ref t, some _, h => ⟨(k t _ h.2 h.1).2, (k t _ h.2 h.1).1⟩
  | .non, some _, h => h.elim
  | .ref _, none, h => h.elim
  | .bl _, _, h => h.elim
  | .int _, _, h => h.elim
  | .str _, _, h => h.elim
theorem TrR.pres {N N' : Addr → Prop} {H H' : Hp} (k : ∀ a o, ¬ N a → H a = some o → ¬ N' a ∧ H' a = some o) {xs : List TrKv} {kvs : List (BKey × Option BKey)} (h : TrR N H xs kvs) : TrR N' H' xs kvs :=
  Paired.mapP h fun p q z => ⟨z.1, ⟨(k _ _ z.2.1.2 z.2.1.1).2, (k _ _ z.2.1.2 z.2.1.1).1⟩, z.2.2.pres k⟩
theorem TrV.tup {N : Addr → Prop} {H H' : Hp} (k : ∀ a vs, H a = some (.tup vs) → H' a = some (.tup vs)) : ∀ {v : V} {d : Option BKey}, TrV N H v d → TrV N H' v d
  | .non, none, _ => True.intro
  | .ref t, some _, h => ⟨k t _ h.1, h.2⟩
  | .non, some _, h => h.elim
  | .ref _, none, h => h.elim
  | .bl _, _, h => h.elim
  | .int _, _, h => h.elim
  | .str _, _, h => h.elim
theorem TrR.tup {N : Addr → Prop} {H H' : Hp} (k : ∀ a vs, H a = some (.tup vs) → H' a = some (.tup vs)) {xs : List TrKv} {kvs : List (BKey × Option BKey)} (h : TrR N H xs kvs) : TrR N H' xs kvs :=
  Paired.mapP h fun p q z => ⟨z.1, ⟨k _ _ z.2.1.1, z.2.1.2⟩, z.2.2.tup k⟩
abbrev Wd := Option (Addr × Addr × List (Addr × Str))
def Wd.own : Wd → Addr → Prop
  | none, _ => False
  | some (b, s, T), a => a = b ∨ a = s ∨ ∃ p ∈ T, p.1 = a
def Wd.ok : Wd → Hp → Prop
  | none, _ => True
  | some (b, s, T), H => Bag b s H ∧ LamX.Tabs T H ∧ (T ≠ [] → ∀ a ps, H a = some (.tbl ps) → ∃ p ∈ T, p.1 = a)
def Nt : HO → Prop
  | .tup _ => False
  | .ext φ => IsTr φ
  | _ => True
abbrev HoN := {o : HO // Nt o}
def Plo : HO → Prop
  | .tup _ => False
  | .ext φ => IsTr φ
  | .tbl _ => False
  | _ => True
theorem Plo.nt : ∀ {o : HO}, Plo o → Nt o := fun {o} h => by cases o <;> first | exact True.intro | exact h
theorem Plo.ntb : ∀ {o : HO}, Plo o → Ntb o := fun {o} h => by cases o <;> first | exact True.intro | exact h
theorem Wd.al : ∀ {W : Wd} {H : Hp} {a : Addr}, W.ok H → W.own a → ∃ o : HoN, H a = some o.1
  | some (b, s, T), H, a, h, .inl e => by
    obtain ⟨ys, hb⟩ := Bag.hb h.1
    exact ⟨⟨.lst _, True.intro⟩, e ▸ hb⟩
  | some (b, s, T), H, a, h, .inr (.inl e) => by
    obtain ⟨ys, hb⟩ := Bag.hs h.1
    exact ⟨⟨.lst _, True.intro⟩, e ▸ hb⟩
  | some (b, s, T), H, a, h, .inr (.inr ⟨p, hp, e⟩) => by
    obtain ⟨ps, h1, _⟩ := h.2.1 p hp
    exact ⟨⟨.tbl ps, True.intro⟩, e ▸ h1⟩
theorem Wd.st0 : ∀ {W : Wd} {H H' : Hp}, W.ok H → (∀ a o, H a = some o → (W.own a ∨ ¬ Plo o) → H' a = some o) → NoT H H' → W.ok H'
  | none, _, _, _, _, _ => trivial
  | some (b, s, T), H, H', h, k, n => by
    obtain ⟨⟨ns, i, big, salt, B⟩, tb, nt⟩ := h
    refine ⟨⟨ns, i, big, salt, k _ _ B.hb (.inl (.inl rfl)), k _ _ B.hs (.inl (.inr (.inl rfl))), B.ne, B.hi, B.hn, B.h0, B.h1, B.h2⟩, fun p hp => ?_, fun ne a ps h => let ⟨qs, q⟩ := n a ps h; nt ne a qs q⟩
    obtain ⟨ps, h1, h2, h3⟩ := tb p hp
    refine ⟨ps, k _ _ h1 (.inl (.inr (.inr ⟨p, hp, rfl⟩))), h2, fun pos cv hc => ?_⟩
    obtain ⟨c, e, hcd⟩ := h3 pos cv hc
    exact ⟨c, e, k _ _ hcd (.inr (codeO_tr _ _))⟩
theorem Wd.st {W : Wd} {H H' : Hp} (h : W.ok H) (k : ∀ a o, H a = some o → (W.own a ∨ ¬ Plo o) → H' a = some o) (n : NoT H H') : W.ok H' := Wd.st0 h k n
mutual
inductive Dd (K : PySem.W.Frag) (N : Addr → Prop) (W : Wd) (H : Hp) : V → D → Prop
  | non : Dd K N W H .non .non
  | bl (b : Bool) : Dd K N W H (.bl b) (.bl b)
  | int (i : Int) : Dd K N W H (.int i) (.int i)
  | str (x : Str) : Dd K N W H (.str x) (.str x)
  | lst {a : Addr} {vs : List V} {ds : List D} : H a = some (.lst vs) → ¬ N a → DdAll K N W H vs ds → Dd K N W H (.ref a) (.lst ds)
  | tup {a : Addr} {vs : List V} {ds : List D} : H a = some (.tup vs) → ¬ N a → DdAll K N W H vs ds → Dd K N W H (.ref a) (.tup ds)
  | dic {a : Addr} {kvs : List (Key × V)} {kds : List (Key × D)} : Rd H a (.dK kvs) → ¬ N a → kvs.map (·.1) = kds.map (·.1) → DdAll K N W H (kvs.map (·.2)) (kds.map (·.2)) → Dd K N W H (.ref a) (.dic kds)
  | dct {a : Addr} {kvs : List (List Key × V)} {kds : List (List Key × D)} : Rd H a (.dT kvs) → ¬ N a → kvs.map (·.1) = kds.map (·.1) → DdAll K N W H (kvs.map (·.2)) (kds.map (·.2)) → Dd K N W H (.ref a) (.dct kds)
  | obj {a C dx : Addr} {fs : List (Str × V)} {fds : List (Str × D)} : H a = some (.ins C dx fs) → ¬ N a → fs.map (·.1) = fds.map (·.1) → DdAll K N W H (fs.map (·.2)) (fds.map (·.2)) → Dd K N W H (.ref a) (.obj C fds)
  | ktp {a : Addr} {o : Obj} {its : Array Value} {n : Nat} {vs : List V} {ds : List D} : K.lookup a = some o → o.cls = .type "tuple" → o.data = .seq its n → its.size ≤ sizeLine → Vals vs its.toList → DdAll K N W H vs ds → Dd K N W H (.ref a) (.ktp ds)
  | bag {b s : Addr} {T : List (Addr × Str)} : W = some (b, s, T) → Dd K N W H (.ref b) .bag
  | fn {f : Addr} {F : LF} {vs : List V} {ds : List D} : FnH N H f F vs → DdAll K N W H vs ds → Dd K N W H (.ref f) (.fn F ds)
  | tr {a : Addr} {G : GdF} {xs : List TrKv} {kvs : List (BKey × Option BKey)} : H a = some (TrO (G ()) a xs) → ¬ N a → TrR N H xs kvs → Dd K N W H (.ref a) (.tr G kvs)
inductive DdAll (K : PySem.W.Frag) (N : Addr → Prop) (W : Wd) (H : Hp) : List V → List D → Prop
  | nil : DdAll K N W H [] []
  | cons {v : V} {d : D} {vs : List V} {ds : List D} : Dd K N W H v d → DdAll K N W H vs ds → DdAll K N W H (v :: vs) (d :: ds)
end
section
variable {K : PySem.W.Frag} {N N' : Addr → Prop} {W : Wd} {H H' : Hp}
theorem rd_keep {a : Addr} {o : HO} (k : ∀ o, H a = some o → H' a = some o) (h : Rd H a o) : Rd H' a o := by
  rcases h with h | ⟨u, h⟩
  · exact .inl (k _ h)
  · exact .inr ⟨u, k _ h⟩
mutual
theorem Dd.pres (k : ∀ a o, ¬ N a → H a = some o → ¬ N' a ∧ H' a = some o) : ∀ {v : V} {d : D}, Dd K N W H v d → Dd K N' W H' v d
  | _, _, .non => .non
  | _, _, .bl b => .bl b
  | _, _, .int i => .int i
  | _, _, .str x => .str x
  | _, _, .lst h q a => .lst (k _ _ q h).2 (k _ _ q h).1 (DdAll.pres k a)
  | _, _, .tup h q a => .tup (k _ _ q h).2 (k _ _ q h).1 (DdAll.pres k a)
  | _, _, .ktp h1 h2 h3 h4 h5 a => .ktp h1 h2 h3 h4 h5 (DdAll.pres k a)
  | _, _, .dic h q e a => .dic (rd_keep (fun o g => (k _ o q g).2) h) (by rcases h with h | ⟨u, h⟩ <;> exact (k _ _ q h).1) e (DdAll.pres k a)
  | _, _, .dct h q e a => .dct (rd_keep (fun o g => (k _ o q g).2) h) (by rcases h with h | ⟨u, h⟩ <;> exact (k _ _ q h).1) e (DdAll.pres k a)
  | _, _, .obj h q e a => .obj (k _ _ q h).2 (k _ _ q h).1 e (DdAll.pres k a)
  | _, _, .bag e => .bag e
  | _, _, .fn h a => .fn (h.pres k) (DdAll.pres k a)
  | _, _, .tr h q a => .tr (k _ _ q h).2 (k _ _ q h).1 (a.pres k)
theorem DdAll.pres (k : ∀ a o, ¬ N a → H a = some o → ¬ N' a ∧ H' a = some o) : ∀ {vs : List V} {ds : List D}, DdAll K N W H vs ds → DdAll K N' W H' vs ds
  | _, _, .nil => .nil
  | _, _, .cons h a => .cons (Dd.pres k h) (DdAll.pres k a)
end
theorem Dd.keep (k : ∀ a o, ¬ N a → H a = some o → H' a = some o) (n : ∀ a, N' a → N a) {v : V} {d : D} (h : Dd K N W H v d) : Dd K N' W H' v d := h.pres fun a o q g => ⟨fun z => q (n a z), k a o q g⟩
theorem DdAll.keep (k : ∀ a o, ¬ N a → H a = some o → H' a = some o) (n : ∀ a, N' a → N a) {v : List V} {d : List D} (h : DdAll K N W H v d) : DdAll K N' W H' v d := h.pres fun a o q g => ⟨fun z => q (n a z), k a o q g⟩
theorem DdAll.len : ∀ {vs : List V} {ds : List D}, DdAll K N W H vs ds → vs.length = ds.length
  | _, _, .nil => rfl
  | _, _, .cons _ a => congrArg Nat.succ (DdAll.len a)
theorem DdAll.get : ∀ {vs : List V} {ds : List D} {i : Nat} {d : D}, DdAll K N W H vs ds → ds[i]? = some d → ∃ v, vs[i]? = some v ∧ Dd K N W H v d
  | _, _, _, _, .nil, h => by simp at h
  | _, _, 0, _, .cons (v := v) q _, h => by
    have e := Option.some.inj h
    exact ⟨v, rfl, e ▸ q⟩
  | _, _, i + 1, _, .cons _ a, h => DdAll.get (i := i) a h
theorem DdAll.getV : ∀ {vs : List V} {ds : List D} {i : Nat} {v : V}, DdAll K N W H vs ds → vs[i]? = some v → ∃ d, ds[i]? = some d ∧ Dd K N W H v d
  | _, _, _, _, .nil, h => by simp at h
  | _, _, 0, _, .cons (d := d) q _, h => by
    have e := Option.some.inj h
    exact ⟨d, rfl, e ▸ q⟩
  | _, _, i + 1, _, .cons _ a, h => DdAll.getV (i := i) a h
theorem DdAll.app : ∀ {vs us : List V} {ds es : List D}, DdAll K N W H vs ds → DdAll K N W H us es → DdAll K N W H (vs ++ us) (ds ++ es)
  | _, _, _, _, .nil, b => b
  | _, _, _, _, .cons h a, b => .cons h (DdAll.app a b)
theorem DdAll.drop : ∀ {vs : List V} {ds : List D} (n : Nat), DdAll K N W H vs ds → DdAll K N W H (vs.drop n) (ds.drop n)
  | _, _, 0, a => a
  | _, _, _ + 1, .nil => .nil
  | _, _, n + 1, .cons _ a => DdAll.drop n a
theorem DdAll.take : ∀ {vs : List V} {ds : List D} (n : Nat), DdAll K N W H vs ds → DdAll K N W H (vs.take n) (ds.take n)
  | _, _, 0, _ => .nil
  | _, _, _ + 1, .nil => .nil
  | _, _, n + 1, .cons h a => .cons h (DdAll.take n a)
theorem DdAll.set : ∀ {vs : List V} {ds : List D} (i : Nat) {v : V} {d : D}, DdAll K N W H vs ds → Dd K N W H v d → DdAll K N W H (vs.set i v) (ds.set i d)
  | _, _, _, _, _, .nil, _ => .nil
  | _, _, 0, _, _, .cons _ a, q => .cons q a
  | _, _, i + 1, _, _, .cons h a, q => .cons h (DdAll.set i a q)
end
inductive Ic where
  | fz (d : D) | lst (a : Addr) (ds : List D) | dic (a : Addr) (kvs : List (Key × D)) | dct (a : Addr) (kvs : List (List Key × D))
def Ic.d : Ic → D
  | .fz d => d
  | .lst _ ds => .lst ds
  | .dic _ kvs => .dic kvs
  | .dct _ kvs => .dct kvs
def Ic.ad : Ic → List Addr
  | .fz _ => []
  | .lst a _ => [a]
  | .dic a _ => [a]
  | .dct a _ => [a]
inductive Fe where
  | fz (d : D) | ow (b : Addr) (ds : List D) | od (b : Addr) (kvs : List (Key × D)) | ot (b : Addr) (kvs : List (List Key × D)) | on (b : Addr) (kvs : List (Key × Ic))
def Fe.ad : Fe → List Addr
  | .fz _ => []
  | .on b kvs => b :: kvs.flatMap (·.2.ad)
  | .ow b _ => [b]
  | .od b _ => [b]
  | .ot b _ => [b]
def fsAd (fs : List (Str × Fe)) : List Addr := fs.flatMap fun p => p.2.ad
inductive En where
  | no | fz (d : D) | ow (ds : List D) | od (kvs : List (Key × D)) | ot (kvs : List (List Key × D)) | oo (C a : Addr) (fs : List (Str × Fe)) | fe (e : Fe) | otr (G : GdF) (kvs : List (BKey × Option BKey))
def En.ad : En → List Addr
  | .oo _ a fs => a :: fsAd fs
  | .fe e => e.ad
  | _ => []
def En.isOw : En → Bool
  | .ow _ => true | .od _ => true | .ot _ => true | .otr _ _ => true | _ => false
abbrev De := List En
def KeepW (W : Wd) (H H' : Hp) : Prop := ∀ a o, ¬ W.own a → H a = some o → H' a = some o
theorem KeepW.refl (W : Wd) (H : Hp) : KeepW W H H := fun _ _ _ h => h
theorem KeepW.trans {W : Wd} {H H1 H2 : Hp} (a : KeepW W H H1) (b : KeepW W H1 H2) : KeepW W H H2 := fun x o n h => b x o n (a x o n h)
theorem KeepW.new {W : Wd} {H : Hp} {p : Addr} {o : HO} (h : H p = none) : KeepW W H (upd H p o) := fun b u _ q => by rw [upd_ne (ne_of_none q h)]; exact q
theorem ok_new {W : Wd} {H : Hp} {p : Addr} {o : HO} (k : W.ok H) (h : H p = none) (n : Ntb o := by exact True.intro) : W.ok (upd H p o) := Wd.st k (fun b u q _ => by rw [upd_ne (ne_of_none q h)]; exact q) (noT_upd n)
inductive Fr where
  | b (x : Bool) | ch (j : Nat) | ob (R : Hp → Prop) | pr
instance : Coe Bool Fr := ⟨Fr.b⟩
def starN (N0 : Addr → Prop) (H : Hp) : Addr → Prop := fun a => N0 a ∨ ∃ o, H a = some o ∧ Nt o
def Ch (j : Nat) (H H' : Hp) (v : V) (x : D) : Prop := ∀ xs ys, x = .tup xs → xs[j]? = some (.lst ys) → ∃ t vs c us, v = .ref t ∧ H' t = some (.tup vs) ∧ vs[j]? = some (.ref c) ∧ H c = none ∧ H' c = some (.lst us)
structure Fx where
  K : PySem.W.Frag
  W : Wd
  N0 : Addr → Prop
  H0 : Hp
  fr : Fr
def Fx.N (F : Fx) (L : List Addr) : Addr → Prop := fun a => F.N0 a ∨ a ∈ L
def IcOk (F : Fx) (L : List Addr) (H : Hp) : Ic → V → Prop
  | .fz d, v => Dd F.K (F.N L) F.W H v d
  | .lst a ds, v => v = .ref a ∧ ∃ vs, H a = some (.lst vs) ∧ DdAll F.K (F.N L) F.W H vs ds
  | .dic a kds, v => v = .ref a ∧ ∃ kvs, H a = some (.dK kvs) ∧ kvs.map (·.1) = kds.map (·.1) ∧ DdAll F.K (F.N L) F.W H (kvs.map (·.2)) (kds.map (·.2))
  | .dct a kds, v => v = .ref a ∧ ∃ kvs, H a = some (.dT kvs) ∧ kvs.map (·.1) = kds.map (·.1) ∧ DdAll F.K (F.N L) F.W H (kvs.map (·.2)) (kds.map (·.2))
def IcAll (F : Fx) (L : List Addr) (H : Hp) : List (Key × V) → List (Key × Ic) → Prop
  | [], [] => True
  | (k, v) :: vs, (k', c) :: cs => k = k' ∧ IcOk F L H c v ∧ IcAll F L H vs cs
  | _, _ => False
def FeOk (F : Fx) (L : List Addr) (H : Hp) : Fe → V → Prop
  | .on b kvs, v => v = .ref b ∧ ∃ vs, H b = some (.dK vs) ∧ IcAll F L H vs kvs
  | .fz d, v => Dd F.K (F.N L) F.W H v d
  | .ow b ds, v => v = .ref b ∧ ∃ vs, H b = some (.lst vs) ∧ DdAll F.K (F.N L) F.W H vs ds
  | .od b kds, v => v = .ref b ∧ ∃ kvs, H b = some (.dK kvs) ∧ kvs.map (·.1) = kds.map (·.1) ∧ DdAll F.K (F.N L) F.W H (kvs.map (·.2)) (kds.map (·.2))
  | .ot b kds, v => v = .ref b ∧ ∃ kvs, H b = some (.dT kvs) ∧ kvs.map (·.1) = kds.map (·.1) ∧ DdAll F.K (F.N L) F.W H (kvs.map (·.2)) (kds.map (·.2))
def FeAll (F : Fx) (L : List Addr) (H : Hp) (vs : List (Str × V)) (fs : List (Str × Fe)) : Prop := vs.map (·.1) = fs.map (·.1) ∧ ∀ (i : Nat) (f : Str) (e : Fe), fs[i]? = some (f, e) → ∃ v, vs[i]? = some (f, v) ∧ FeOk F L H e v
def EnOk (F : Fx) (L : List Addr) (H : Hp) : En → Option V → Prop
  | .no, _ => True
  | .fz d, some v => Dd F.K (F.N L) F.W H v d
  | .ow ds, some (.ref a) => a ∈ L ∧ ∃ vs, H a = some (.lst vs) ∧ DdAll F.K (F.N L) F.W H vs ds
  | .od kds, some (.ref a) => a ∈ L ∧ ∃ kvs, H a = some (.dK kvs) ∧ kvs.map (·.1) = kds.map (·.1) ∧ DdAll F.K (F.N L) F.W H (kvs.map (·.2)) (kds.map (·.2))
  | .ot kds, some (.ref a) => a ∈ L ∧ ∃ kvs, H a = some (.dT kvs) ∧ kvs.map (·.1) = kds.map (·.1) ∧ DdAll F.K (F.N L) F.W H (kvs.map (·.2)) (kds.map (·.2))
  | .otr G kds, some (.ref a) => a ∈ L ∧ ∃ kvs, H a = some (TrO (G ()) a kvs) ∧ TrR (F.N L) H kvs kds
  | .oo C a fs, some (.ref b) => b = a ∧ (∀ x ∈ a :: fsAd fs, x ∈ L) ∧ (a :: fsAd fs).Nodup ∧ ∃ dx vs, H a = some (.ins C dx vs) ∧ FeAll F L H vs fs
  | .fe e, some v => (∀ x ∈ e.ad, x ∈ L) ∧ e.ad.Nodup ∧ FeOk F L H e v
  | _, _ => False
def SoP (env : De) (σ : L2.St) : Prop := ∀ (i : Nat) (e : En) (b : Addr), env[i]? = some e → b ∈ e.ad → (∀ (j : Nat) (ej : En), env[j]? = some ej → ej.isOw = true → σ[j]? = some (some (.ref b)) → False) ∧ ∀ (j : Nat) (ej : En), env[j]? = some ej → b ∈ ej.ad → i = j
structure Abs (F : Fx) (env : De) (σ : L2.St) (L : List Addr) (H : Hp) : Prop where
  ok : F.W.ok H
  al : ∀ a, F.N0 a → ∃ o : HoN, F.H0 a = some o.1
  wn : ∀ a, F.W.own a → F.N0 a
  kp : KeepW F.W F.H0 H
  fr : ∀ a ∈ L, F.H0 a = none ∧ ∃ o, H a = some o ∧ Plo o
  ls : env.length = σ.length
  sep : ∀ (i j : Nat) (a : Addr) (ei ej : En), env[i]? = some ei → env[j]? = some ej → ei.isOw = true → ej.isOw = true → σ[i]? = some (some (.ref a)) → σ[j]? = some (some (.ref a)) → i = j
  so : SoP env σ
  en : ∀ (i : Nat) (e : En) (x : Option V), env[i]? = some e → σ[i]? = some x → EnOk F L H e x
section
variable {F : Fx} {env : De} {σ : L2.St} {L : List Addr} {H H' : Hp}
theorem Abs.alN (A : Abs F env σ L H) {a : Addr} (h : F.N L a) : ∃ o : HoN, H a = some o.1 := by
  rcases h with h | h
  · obtain ⟨o, e⟩ := A.al a h
    by_cases w : F.W.own a
    · exact Wd.al A.ok w
    · exact ⟨o, A.kp a o.1 w e⟩
  · obtain ⟨_, o, e, pl⟩ := A.fr a h
    exact ⟨⟨o, pl.nt⟩, e⟩
theorem Abs.alO (A : Abs F env σ L H) {a : Addr} (h : F.N L a) : ∃ o, H a = some o := (let ⟨o, e⟩ := A.alN h; ⟨o.1, e⟩)
theorem Abs.new (A : Abs F env σ L H) {p : Addr} (h : H p = none) : ¬ F.N L p := fun z => by
  obtain ⟨o, e⟩ := A.alN z
  rw [h] at e
  cases e
theorem Abs.out (A : Abs F env σ L H) {a : Addr} (h : a ∈ L) : ¬ F.N0 a := fun z => by
  obtain ⟨o, e⟩ := A.al a z
  rw [(A.fr a h).1] at e
  cases e
theorem nw_of (A : Abs F env σ L H) {a : Addr} (h : ¬ F.N L a) : ¬ F.W.own a := fun z => h (.inl (A.wn a z))
theorem KeepW.n (A : Abs F env σ L H) (k : KeepW F.W H H') : ∀ a o, ¬ F.N L a → H a = some o → H' a = some o := fun a o n h => k a o (nw_of A n) h
theorem Abs.kd (A : Abs F env σ L H) (k : KeepW F.W H H') {v : V} {d : D} (h : Dd F.K (F.N L) F.W H v d) : Dd F.K (F.N L) F.W H' v d := h.keep (k.n A) fun _ z => z
theorem Abs.kda (A : Abs F env σ L H) (k : KeepW F.W H H') {v : List V} {d : List D} (h : DdAll F.K (F.N L) F.W H v d) : DdAll F.K (F.N L) F.W H' v d := h.keep (k.n A) fun _ z => z
theorem ad_ow {e : En} (h : e.isOw = true) : e.ad = [] := by cases e <;> first | rfl | cases h
theorem fe_mem {fs : List (Str × Fe)} {i : Nat} {f : Str} {e : Fe} (h : fs[i]? = some (f, e)) {b : Addr} (hb : b ∈ e.ad) : b ∈ fsAd fs := List.mem_flatMap.mpr ⟨_, List.mem_of_getElem? h, hb⟩
theorem IcOk.pres {L' : List Addr} (pr : ∀ a o, ¬ F.N L a → H a = some o → ¬ F.N L' a ∧ H' a = some o) : ∀ {c : Ic} {v : V}, (∀ b ∈ c.ad, ∀ o, H b = some o → H' b = some o) → IcOk F L H c v → IcOk F L' H' c v
  | .fz d, v, _, h => Dd.pres pr h
  | .lst a ds, v, g, ⟨h1, vs, h2, h3⟩ => ⟨h1, vs, g a List.mem_cons_self _ h2, h3.pres pr⟩
  | .dic a ds, v, g, ⟨h1, vs, h2, h4, h3⟩ => ⟨h1, vs, g a List.mem_cons_self _ h2, h4, h3.pres pr⟩
  | .dct a ds, v, g, ⟨h1, vs, h2, h4, h3⟩ => ⟨h1, vs, g a List.mem_cons_self _ h2, h4, h3.pres pr⟩
theorem IcAll.pres {L' : List Addr} (pr : ∀ a o, ¬ F.N L a → H a = some o → ¬ F.N L' a ∧ H' a = some o) : ∀ {cs : List (Key × Ic)} {vs : List (Key × V)}, (∀ b ∈ cs.flatMap (·.2.ad), ∀ o, H b = some o → H' b = some o) → IcAll F L H vs cs → IcAll F L' H' vs cs
  | [], [], _, _ => trivial
  | [], _ :: _, _, h => h.elim
  | _ :: _, [], _, h => h.elim
  | (k', c) :: cs, (k, v) :: vs, g, ⟨h1, h2, h3⟩ => ⟨h1, h2.pres pr fun b hb => g b (by rw [List.flatMap_cons]; exact List.mem_append_left _ hb), h3.pres pr fun b hb => g b (by rw [List.flatMap_cons]; exact List.mem_append_right _ hb)⟩
theorem FeOk.pres {L' : List Addr} (pr : ∀ a o, ¬ F.N L a → H a = some o → ¬ F.N L' a ∧ H' a = some o) : ∀ {e : Fe} {v : V}, (∀ b ∈ e.ad, ∀ o, H b = some o → H' b = some o) → FeOk F L H e v → FeOk F L' H' e v
  | .fz d, v, _, h => Dd.pres pr h
  | .ow b ds, _, g, ⟨h1, vs, h2, h3⟩ => ⟨h1, vs, g b List.mem_cons_self _ h2, h3.pres pr⟩
  | .od b ds, _, g, ⟨h1, vs, h2, h4, h3⟩ => ⟨h1, vs, g b List.mem_cons_self _ h2, h4, h3.pres pr⟩
  | .ot b ds, _, g, ⟨h1, vs, h2, h4, h3⟩ => ⟨h1, vs, g b List.mem_cons_self _ h2, h4, h3.pres pr⟩
  | .on b kvs, _, g, ⟨h1, vs, h2, h3⟩ => ⟨h1, vs, g b List.mem_cons_self _ h2, h3.pres pr fun x hx => g x (List.mem_cons_of_mem _ hx)⟩
theorem FeAll.pres {L' : List Addr} (pr : ∀ a o, ¬ F.N L a → H a = some o → ¬ F.N L' a ∧ H' a = some o) {vs : List (Str × V)} {fs : List (Str × Fe)} (g : ∀ b ∈ fsAd fs, ∀ o, H b = some o → H' b = some o) (h : FeAll F L H vs fs) : FeAll F L' H' vs fs :=
  ⟨h.1, fun i f e hi => let ⟨v, h1, h2⟩ := h.2 i f e hi; ⟨v, h1, h2.pres pr fun b hb => g b (fe_mem hi hb)⟩⟩
theorem EnOk.keep {L' : List Addr} (A : Abs F env σ L H) (k : ∀ a o, ¬ F.N L a → H a = some o → H' a = some o) (n : ∀ a, F.N L' a → F.N L a) : ∀ {e : En} {x : Option V}, (∀ a, x = some (.ref a) → e.isOw = true → a ∈ L → a ∈ L' ∧ ∀ o, H a = some o → H' a = some o) → (∀ b ∈ e.ad, b ∈ L → b ∈ L' ∧ ∀ o, H b = some o → H' b = some o) → EnOk F L H e x → EnOk F L' H' e x
  | .no, _, _, _, _ => trivial
  | .fz d, some v, _, _, h => Dd.keep k n h
  | .oo C a fs, some (.ref b), _, g, ⟨h1, h2, h3, dx, vs, h4, h5⟩ => ⟨h1, fun x hx => (g x hx (h2 x hx)).1, h3, dx, vs, (g a List.mem_cons_self (h2 a List.mem_cons_self)).2 _ h4, h5.pres (fun x o q e => ⟨fun z => q (n x z), k x o q e⟩) fun x hx => (g x (List.mem_cons_of_mem _ hx) (h2 x (List.mem_cons_of_mem _ hx))).2⟩
  | .fe e, some v, _, g, ⟨h2, h3, h4⟩ => ⟨fun x hx => (g x hx (h2 x hx)).1, h3, h4.pres (fun x o q e => ⟨fun z => q (n x z), k x o q e⟩) fun x hx => (g x hx (h2 x hx)).2⟩
  | .ow ds, some (.ref a), g, _, ⟨h1, vs, h2, h3⟩ => let ⟨g1, g2⟩ := g a rfl rfl h1; ⟨g1, vs, g2 _ h2, DdAll.keep k n h3⟩
  | .od ds, some (.ref a), g, _, ⟨h1, vs, h2, h4, h3⟩ => let ⟨g1, g2⟩ := g a rfl rfl h1; ⟨g1, vs, g2 _ h2, h4, DdAll.keep k n h3⟩
  | .ot ds, some (.ref a), g, _, ⟨h1, vs, h2, h4, h3⟩ => let ⟨g1, g2⟩ := g a rfl rfl h1; ⟨g1, vs, g2 _ h2, h4, DdAll.keep k n h3⟩
  | .otr G ds, some (.ref a), g, _, ⟨h1, vs, h2, h3⟩ => let ⟨g1, g2⟩ := g a rfl rfl h1; ⟨g1, vs, g2 _ h2, h3.pres fun x o q e => ⟨fun z => q (n x z), k x o q e⟩⟩
theorem Abs.step (A : Abs F env σ L H) (k : KeepW F.W H H') (o : F.W.ok H') : Abs F env σ L H' := by
  have w : ∀ a ∈ L, ¬ F.W.own a := fun a h z => A.out h (A.wn a z)
  refine ⟨o, A.al, A.wn, A.kp.trans k, fun a h => ?_, A.ls, A.sep, A.so, fun i e x h1 h2 => ?_⟩
  · obtain ⟨h1, u, h2, pl⟩ := A.fr a h
    exact ⟨h1, u, k a u (w a h) h2, pl⟩
  · exact EnOk.keep A (k.n A) (fun _ z => z) (fun a _ _ h => ⟨h, fun o q => k a o (w a h) q⟩) (fun a _ h => ⟨h, fun o q => k a o (w a h) q⟩) (A.en i e x h1 h2)
end
theorem get_set {α : Type} {l : List α} {i j : Nat} {x y : α} (h : (l.set i x)[j]? = some y) : (i = j ∧ y = x ∧ i < l.length) ∨ (i ≠ j ∧ l[j]? = some y) := by
  by_cases hj : i = j
  · subst hj
    by_cases hi : i < l.length
    · rw [List.getElem?_set_self hi] at h
      exact .inl ⟨rfl, (Option.some.inj h).symm, hi⟩
    · rw [List.getElem?_eq_none (by rw [List.length_set]; omega)] at h
      cases h
  · rw [List.getElem?_set_ne hj] at h
    exact .inr ⟨hj, h⟩
theorem SoP.set0 {env : De} {σ : L2.St} (S : SoP env σ) {i : Nat} {e' : En} (h0 : e'.ad = []) (h1 : e'.isOw = false) (y : Option V) : SoP (env.set i e') (σ.set i y) := fun j e b hj hb => by
  rcases get_set hj with ⟨_, rfl, _⟩ | ⟨nj, hj2⟩
  · rw [h0] at hb; cases hb
  · obtain ⟨s1, s2⟩ := S j e b hj2 hb
    refine ⟨fun l el hl ow hs => ?_, fun l el hl hb' => ?_⟩
    · rcases get_set hl with ⟨_, rfl, _⟩ | ⟨nl, hl2⟩
      · rw [h1] at ow; cases ow
      · rw [List.getElem?_set_ne nl] at hs
        exact s1 l el hl2 ow hs
    · rcases get_set hl with ⟨_, rfl, _⟩ | ⟨nl, hl2⟩
      · rw [h0] at hb'; cases hb'
      · exact s2 l el hl2 hb'
theorem SoP.setS {env : De} {σ : L2.St} (S : SoP env σ) {i : Nat} {e' : En} (h0 : e'.ad = []) (h1 : e'.isOw = false) : SoP (env.set i e') σ := fun j e b hj hb => by
  rcases get_set hj with ⟨_, rfl, _⟩ | ⟨nj, hj2⟩
  · rw [h0] at hb; cases hb
  · obtain ⟨s1, s2⟩ := S j e b hj2 hb
    refine ⟨fun l el hl ow hs => ?_, fun l el hl hb' => ?_⟩
    · rcases get_set hl with ⟨_, rfl, _⟩ | ⟨nl, hl2⟩
      · rw [h1] at ow; cases ow
      · exact s1 l el hl2 ow hs
    · rcases get_set hl with ⟨_, rfl, _⟩ | ⟨nl, hl2⟩
      · rw [h0] at hb'; cases hb'
      · exact s2 l el hl2 hb'
theorem SoP.setW {env : De} {σ : L2.St} (S : SoP env σ) (ls : env.length = σ.length) {i : Nat} {e' : En} {a : Addr} (h0 : e'.ad = []) (no : ∀ (j : Nat) (ej : En), env[j]? = some ej → a ∉ ej.ad) : SoP (env.set i e') (σ.set i (some (.ref a))) := fun j e b hj hb => by
  rcases get_set hj with ⟨_, rfl, _⟩ | ⟨nj, hj2⟩
  · rw [h0] at hb; cases hb
  · obtain ⟨s1, s2⟩ := S j e b hj2 hb
    refine ⟨fun l el hl ow hs => ?_, fun l el hl hb' => ?_⟩
    · rcases get_set hl with ⟨rfl, rfl, hi⟩ | ⟨nl, hl2⟩
      · rw [List.getElem?_set_self (by rw [← ls]; exact hi)] at hs
        cases hs
        exact no j e hj2 hb
      · rw [List.getElem?_set_ne nl] at hs
        exact s1 l el hl2 ow hs
    · rcases get_set hl with ⟨_, rfl, _⟩ | ⟨nl, hl2⟩
      · rw [h0] at hb'; cases hb'
      · exact s2 l el hl2 hb'
theorem SoP.wr {env : De} {σ : L2.St} (S : SoP env σ) {i : Nat} {e e' : En} (h0 : e'.ad = []) (hi : env[i]? = some e) (ow : e.isOw = true) : SoP (env.set i e') σ := fun j e2 b hj hb => by
  rcases get_set hj with ⟨_, rfl, _⟩ | ⟨nj, hj2⟩
  · rw [h0] at hb; cases hb
  · obtain ⟨s1, s2⟩ := S j e2 b hj2 hb
    refine ⟨fun l el hl ow' hs => ?_, fun l el hl hb' => ?_⟩
    · rcases get_set hl with ⟨rfl, rfl, _⟩ | ⟨nl, hl2⟩
      · exact s1 i e hi ow hs
      · exact s1 l el hl2 ow' hs
    · rcases get_set hl with ⟨_, rfl, _⟩ | ⟨nl, hl2⟩
      · rw [h0] at hb'; cases hb'
      · exact s2 l el hl2 hb'
abbrev TDE := De → (D → Prop) → Prop
abbrev TDT := De → (Bool → Prop) → Prop
abbrev TDA := De → (List D → Prop) → Prop
def lC (F : Fx) (d : TDE) : TE := fun σ H Q => ∃ env L P, Abs F env σ L H ∧ d env P ∧ ∀ x v H', P x → KeepW F.W H H' → F.W.ok H' → Dd F.K (F.N L) F.W H' v x → Q v H'
def NewV (F : Fx) (L : List Addr) (H : Hp) (a : Addr) : D → Prop
  | .lst ds => ∃ vs, H a = some (.lst vs) ∧ DdAll F.K (F.N (a :: L)) F.W H vs ds
  | .tup ds => ∃ vs, H a = some (.tup vs) ∧ DdAll F.K (F.N (a :: L)) F.W H vs ds
  | .dic kds => ∃ kvs, H a = some (.dK kvs) ∧ kvs.map (·.1) = kds.map (·.1) ∧ DdAll F.K (F.N (a :: L)) F.W H (kvs.map (·.2)) (kds.map (·.2))
  | .dct kds => ∃ kvs, H a = some (.dT kvs) ∧ kvs.map (·.1) = kds.map (·.1) ∧ DdAll F.K (F.N (a :: L)) F.W H (kvs.map (·.2)) (kds.map (·.2))
  | .tr G kds => ∃ kvs, H a = some (TrO (G ()) a kvs) ∧ TrR (F.N (a :: L)) H kvs kds
  | _ => False
theorem nl_sub {F : Fx} {L : List Addr} {a : Addr} : ∀ x, F.N L x → F.N (a :: L) x := fun x h => h.imp id (List.mem_cons_of_mem _)
theorem NewV.dd {F : Fx} {L : List Addr} {H : Hp} {a : Addr} (n : ¬ F.N L a) : ∀ {x : D}, NewV F L H a x → Dd F.K (F.N L) F.W H (.ref a) x
  | .lst ds, ⟨vs, h, g⟩ => .lst h n (g.keep (fun _ _ _ z => z) nl_sub)
  | .tup ds, ⟨vs, h, g⟩ => .tup h n (g.keep (fun _ _ _ z => z) nl_sub)
  | .dic ds, ⟨vs, h, e, g⟩ => .dic (.inl h) n e (g.keep (fun _ _ _ z => z) nl_sub)
  | .dct ds, ⟨vs, h, e, g⟩ => .dct (.inl h) n e (g.keep (fun _ _ _ z => z) nl_sub)
  | .tr G ds, ⟨vs, h, g⟩ => .tr h n (g.pres fun x o q e => ⟨fun z => q (nl_sub x z), e⟩)
def lN (F : Fx) (d : TDE) : TE := fun σ H Q => ∃ env L P, Abs F env σ L H ∧ d env P ∧ ∀ x a H', P x → KeepW F.W H H' → F.W.ok H' → H a = none → NewV F L H' a x → Q (.ref a) H'
def Bw (F : Fx) (L : List Addr) (H : Hp) (v : V) (x : D) : Prop := Dd F.K (F.N L) F.W H v x ∨ ∃ e, e.isOw = true ∧ EnOk F L H e (some v) ∧ x = (match e with | .ow ds => .lst ds | .od ds => .dic ds | .ot ds => .dct ds | .otr G ds => .tr G ds | _ => .non)
def lB (F : Fx) (d : TDE) : TE := fun σ H Q => ∃ env L P, Abs F env σ L H ∧ d env P ∧ ∀ x v H', P x → KeepW F.W H H' → F.W.ok H' → Bw F L H' v x → Q v H'
def lT (F : Fx) (d : TDT) : TT := fun σ H Q => ∃ env L P, Abs F env σ L H ∧ d env P ∧ ∀ x H', P x → KeepW F.W H H' → F.W.ok H' → Q x H'
def lA (F : Fx) (d : TDA) : TA := fun σ H Q => ∃ env L P, Abs F env σ L H ∧ d env P ∧ ∀ xs vs H', P xs → KeepW F.W H H' → F.W.ok H' → DdAll F.K (F.N L) F.W H' vs xs → Q vs H'
section
variable {X : Cx} {F : Fx} {e a b : Expr} {d da db : TDE}
theorem PE.mono {t t' : TE} (h : PE X e t) (m : ∀ σ H Q, t' σ H Q → t σ H Q) : PE X e t' := ⟨fun pins s σ H Q I q => h.run pins s σ H Q I (m σ H Q q)⟩
theorem PT.mono {t t' : TT} (h : PT X e t) (m : ∀ σ H Q, t' σ H Q → t σ H Q) : PT X e t' := ⟨fun pins s σ H Q I q => h.run pins s σ H Q I (m σ H Q q)⟩
theorem PW.mono {t t' : TT} (h : PW X e t) (m : ∀ σ H Q, t' σ H Q → t σ H Q) : PW X e t' := ⟨fun wh pins s σ H Q I q => h.run wh pins s σ H Q I (m σ H Q q)⟩
theorem PA.mono {es : List Expr} {t t' : TA} (h : PA X es t) (m : ∀ σ H Q, t' σ H Q → t σ H Q) : PA X es t' := ⟨fun pos pins s σ H Q I q => h.run pos pins s σ H Q I (m σ H Q q)⟩
theorem PK.mono {es : List Keyword} {t t' : TA} (h : PK X es t) (m : ∀ σ H Q, t' σ H Q → t σ H Q) : PK X es t' := ⟨fun pos pins s σ H Q I q => h.run pos pins s σ H Q I (m σ H Q q)⟩
theorem PS.mono {st : Stmt} {t t' : TS} (h : PS X st t) (m : ∀ E σ H, t' E σ H → t E σ H) : PS X st t' := ⟨fun pins s σ H E I q => h.run pins s σ H E I (m E σ H q)⟩
theorem PSs.mono {st : List Stmt} {t t' : TS} (h : PSs X st t) (m : ∀ E σ H, t' E σ H → t E σ H) : PSs X st t' := ⟨fun pins s σ H E I q => h.run pins s σ H E I (m E σ H q)⟩
theorem n_c (h : PE X e (lN F d)) : PE X e (lC F d) := PE.mono h fun σ H Q ⟨env, L, P, A, p, q⟩ => ⟨env, L, P, A, p, fun x a H' px k o n dd => q x _ H' px k o (dd.dd (A.new n))⟩
theorem c_b (h : PE X e (lC F d)) : PE X e (lB F d) := PE.mono h fun σ H Q ⟨env, L, P, A, p, q⟩ => ⟨env, L, P, A, p, fun x v H' px k o dd => q x v H' px k o (.inl dd)⟩
def D.leaf : D → Bool
  | .non => true | .bl _ => true | .int _ => true | .str _ => true | _ => false
def dC (x : D) : TDE := fun _ P => P x
theorem c_lift {x : D} {v : V} (h : PE X e (tC v)) (r : ∀ K N W H, Dd K N W H v x) : PE X e (lC F (dC x)) := PE.mono h fun σ H Q ⟨env, L, P, A, p, q⟩ => q x v H p (.refl _ _) A.ok (r _ _ _ _)
theorem dd_int {i : Int} {j} {pos : Pos} : PE X (.Constant (.int i) j pos) (lC F (dC (.int i))) := c_lift pe_int fun _ _ _ _ => .int i
theorem dd_str {i : Str} {j} {pos : Pos} : PE X (.Constant (.str i) j pos) (lC F (dC (.str i))) := c_lift pe_str fun _ _ _ _ => .str i
theorem dd_bl {i : Bool} {j} {pos : Pos} : PE X (.Constant (.bool i) j pos) (lC F (dC (.bl i))) := c_lift pe_bl fun _ _ _ _ => .bl i
def dV (i : Nat) : TDE := fun env P => match env[i]? with | some (.fz d) => P d | _ => False
def dB (i : Nat) : TDE := fun env P => match env[i]? with | some (.fz d) => P d | some (.ow ds) => P (.lst ds) | some (.od ds) => P (.dic ds) | some (.ot ds) => P (.dct ds) | some (.otr G ds) => P (.tr G ds) | _ => False
theorem abs_at {env : De} {σ : L2.St} {L : List Addr} {H : Hp} (A : Abs F env σ L H) {i : Nat} {e : En} (h : env[i]? = some e) (n : e ≠ .no) : ∃ v, σ[i]? = some (some v) ∧ EnOk F L H e (some v) := by
  have hi : i < σ.length := by rw [← A.ls]; exact (List.getElem?_eq_some_iff.mp h).1
  have h2 := A.en i e σ[i] h (List.getElem?_eq_getElem hi)
  cases q : σ[i] with
  | none =>
    rw [q] at h2
    cases e with
    | no => exact absurd rfl n
    | _ => exact h2.elim
  | some v =>
    rw [q] at h2
    exact ⟨v, by rw [List.getElem?_eq_getElem hi, q], h2⟩
theorem loneO {env : De} {σ : L2.St} {L : List Addr} {H : Hp} (A : Abs F env σ L H) {a : Addr} (n : H a = none) : ∀ (j : Nat) (ej : En), env[j]? = some ej → a ∉ ej.ad := fun j ej h hb => by
  cases ej with
  | oo C b fs =>
    obtain ⟨v, _, q⟩ := abs_at A h (by intro w; cases w)
    cases v with
    | ref c =>
      obtain ⟨_, u, hu, _⟩ := A.fr a (q.2.1 a hb)
      rw [n] at hu
      cases hu
    | _ => exact q.elim
  | fe e =>
    obtain ⟨v, _, q⟩ := abs_at A h (by intro w; cases w)
    obtain ⟨_, u, hu, _⟩ := A.fr a (q.1 a hb)
    rw [n] at hu
    cases hu
  | _ => cases hb
theorem dd_v {i : Nat} (h : PE X e (tVar i)) : PE X e (lC F (dV i)) := PE.mono h fun σ H Q ⟨env, L, P, A, p, q⟩ => by
  unfold dV at p
  cases z : env[i]? with
  | none => rw [z] at p; exact p.elim
  | some en =>
    rw [z] at p
    cases en with
    | fz d =>
      obtain ⟨v, h1, h2⟩ := abs_at A z (by intro w; cases w)
      exact ⟨v, h1, q d v H p (.refl _ _) A.ok h2⟩
    | _ => exact p.elim
theorem dd_b {i : Nat} (h : PE X e (tVar i)) : PE X e (lB F (dB i)) := PE.mono h fun σ H Q ⟨env, L, P, A, p, q⟩ => by
  unfold dB at p
  cases z : env[i]? with
  | none => rw [z] at p; exact p.elim
  | some en =>
    rw [z] at p
    cases en with
    | no => exact p.elim
    | oo _ _ _ => exact p.elim
    | fe _ => exact p.elim
    | fz d =>
      obtain ⟨v, h1, h2⟩ := abs_at A z (by intro w; cases w)
      exact ⟨v, h1, q d v H p (.refl _ _) A.ok (.inl h2)⟩
    | _ =>
      obtain ⟨v, h1, h2⟩ := abs_at A z (by intro w; cases w)
      exact ⟨v, h1, q _ v H p (.refl _ _) A.ok (.inr ⟨_, rfl, h2, rfl⟩)⟩
end
end DL
namespace RK
open PySem PySem.Spec PyProof.Rows L2 DL
def topS (i : Nat) : Stmt := PySem.Challenge.pw_raisekeys_k19_sizes_and_flat_scripts.main.body.getD i (.Pass ⟨0, 0, 0, 0⟩)
abbrev s_is_list : Stmt := topS 2
abbrev s_begins_with : Stmt := topS 3
abbrev s_is_repeat : Stmt := topS 4
abbrev s_has_nested_script : Stmt := topS 5
abbrev s_inner_steps : Stmt := topS 6
abbrev s_levels : Stmt := topS 7
abbrev s_script_size : Stmt := topS 8
abbrev s_fresh_step : Stmt := topS 9
abbrev s_flat : Stmt := topS 10
abbrev s_bag : Stmt := topS 12
abbrev s_pull : Stmt := topS 13
abbrev s_of : Stmt := topS 14
abbrev s_like : Stmt := topS 15
abbrev s_mixed : Stmt := topS 16
abbrev s_some : Stmt := topS 17
abbrev s_names : Stmt := topS 18
abbrev s_rectangle : Stmt := topS 19
abbrev s_moving : Stmt := topS 20
abbrev s_step : Stmt := topS 21
abbrev s_script : Stmt := topS 22
abbrev s_l_flat : Stmt := topS 23
abbrev s_size : Stmt := topS 24
abbrev s_law : Stmt := topS 25
def tup2B (K : PySem.W.Frag) (a : Addr) (x y : Str) : Bool := match K.lookup a with
  | some ⟨.type ty, _, .seq ⟨[.str p _, .str q _]⟩ _, _⟩ => decide (ty = "tuple") && (decide (p = x) && decide (q = y))
  | _ => false
def lo0 : List Str := ["MOVES", "is_list", "begins_with", "is_repeat", "has_nested_script", "inner_steps", "levels", "script_size", "fresh_step", "flat", "_law_bag", "_law_pull", "_law_of", "_law_like", "_law_mixed", "_law_some"]
def lo1 : List Str := ["_law_names", "_law_rectangle", "_law_moving", "_law_step", "_law_script", "_law_flat", "_law_size"]
def loL : List Str := lo0 ++ lo1
def fa0 : List He.Fa := [.glo "is_list", .glo "begins_with", .glo "is_repeat", .glo "has_nested_script", .glo "inner_steps", .glo "levels", .glo "script_size", .glo "fresh_step", .glo "flat", .glo "_law_bag", .glo "_law_pull", .glo "_law_of", .glo "_law_like", .glo "_law_mixed", .glo "_law_some", .glo "_law_names"]
def fa1 : List He.Fa := [.glo "_law_rectangle", .glo "_law_moving", .glo "_law_step", .glo "_law_script", .glo "_law_flat", .glo "_law_size", .glo "law", .glo "MOVES", .free "all", .free "bool", .free "isinstance", .free "len", .free "list", .free "min", .free "range", .free "repr"]
def fa2 : List He.Fa := [.free "sum", .free "tuple"]
def faL : List He.Fa := fa0 ++ fa1 ++ fa2
def fn0 : List He.DefD := [⟨("is_list", none), "is_list", "is_list", defArgs s_is_list, defBody s_is_list, defScope s_is_list, [], []⟩, ⟨("begins_with", none), "begins_with", "begins_with", defArgs s_begins_with, defBody s_begins_with, defScope s_begins_with, [], []⟩, ⟨("is_repeat", none), "is_repeat", "is_repeat", defArgs s_is_repeat, defBody s_is_repeat, defScope s_is_repeat, [], []⟩, ⟨("has_nested_script", none), "has_nested_script", "has_nested_script", defArgs s_has_nested_script, defBody s_has_nested_script, defScope s_has_nested_script, [], []⟩, ⟨("inner_steps", none), "inner_steps", "inner_steps", defArgs s_inner_steps, defBody s_inner_steps, defScope s_inner_steps, [], []⟩, ⟨("levels", none), "levels", "levels", defArgs s_levels, defBody s_levels, defScope s_levels, [], []⟩, ⟨("script_size", none), "script_size", "script_size", defArgs s_script_size, defBody s_script_size, defScope s_script_size, [], []⟩, ⟨("fresh_step", none), "fresh_step", "fresh_step", defArgs s_fresh_step, defBody s_fresh_step, defScope s_fresh_step, [], []⟩]
def fn1 : List He.DefD := [⟨("flat", none), "flat", "flat", defArgs s_flat, defBody s_flat, defScope s_flat, [], []⟩, ⟨("_law_bag", none), "_law_bag", "_law_bag", defArgs s_bag, defBody s_bag, defScope s_bag, [], []⟩, ⟨("_law_pull", none), "_law_pull", "_law_pull", defArgs s_pull, defBody s_pull, defScope s_pull, [], []⟩, ⟨("_law_of", none), "_law_of", "_law_of", defArgs s_of, defBody s_of, defScope s_of, [], []⟩, ⟨("_law_like", none), "_law_like", "_law_like", defArgs s_like, defBody s_like, defScope s_like, [], []⟩, ⟨("_law_mixed", none), "_law_mixed", "_law_mixed", defArgs s_mixed, defBody s_mixed, defScope s_mixed, [], []⟩, ⟨("_law_some", none), "_law_some", "_law_some", defArgs s_some, defBody s_some, defScope s_some, [], []⟩, ⟨("_law_names", none), "_law_names", "_law_names", defArgs s_names, defBody s_names, defScope s_names, [], []⟩]
def fn2 : List He.DefD := [⟨("_law_rectangle", none), "_law_rectangle", "_law_rectangle", defArgs s_rectangle, defBody s_rectangle, defScope s_rectangle, [], []⟩, ⟨("_law_moving", none), "_law_moving", "_law_moving", defArgs s_moving, defBody s_moving, defScope s_moving, [], []⟩, ⟨("_law_step", none), "_law_step", "_law_step", defArgs s_step, defBody s_step, defScope s_step, [], []⟩, ⟨("_law_script", none), "_law_script", "_law_script", defArgs s_script, defBody s_script, defScope s_script, [], []⟩, ⟨("_law_flat", none), "_law_flat", "_law_flat", defArgs s_l_flat, defBody s_l_flat, defScope s_l_flat, [], []⟩, ⟨("_law_size", none), "_law_size", "_law_size", defArgs s_size, defBody s_size, defScope s_size, [], []⟩, ⟨("law", none), "law", "law", defArgs s_law, defBody s_law, defScope s_law, [], []⟩]
def fnL : List He.DefD := fn0 ++ fn1 ++ fn2
def ex0 (K : PySem.W.Frag) : List Bool := [tup2B K (He.ga K "MOVES") "raise" "lower"]
def exL (K : PySem.W.Frag) : List Bool := ex0 K
def exB (K : PySem.W.Frag) : Bool := (exL K).all id
abbrev R0 : PySem.W.OpenRow := PySem.W.OpenLaw.row PySem.Challenge.rw_raisekeys_k19_sizes_and_flat_scripts
def refsK (o : Obj) : List Addr := match o.data with
  | .dict es _ => es.toList.flatMap fun e => He.refV e.val
  | .func fd => He.refV fd.code ++ (He.refV fd.defaults ++ He.refV fd.kwdefaults)
  | .cls cd => [cd.ns]
  | _ => []
def underK (g : Addr → Option Obj) : Nat → Addr → List Addr
  | 0, a => [a]
  | n + 1, a => a :: (match g a with
    | some o => (refsK o).flatMap (underK g n)
    | none => [])
def frK (g : Addr → Option Obj) : PySem.W.Frag := He.frT g (underK g 5 mainGlobals)
def obK (g : Addr → Option Obj) : He.AlX := (He.obsT faL fnL [] (frK g), exB (frK g))
def hkL : PySem.W.Hook where
  α := He.AlX
  obs := fun s => obK s.heap.get?
  val := fun w => He.valX fnL [] w
  says := fun w h => ∃ K : PySem.W.Frag, K.In h ∧ He.SaysX faL fnL [] [] exB w h K
  of := fun _ _ e => ⟨_, He.frT_in, congrArg (fun z : He.AlX => z.1) e, congrArg (fun z : He.AlX => z.2) e, nofun, nofun, nofun⟩
  keeps := fun _ _ _ ⟨K, hK, c⟩ k => ⟨K, PySem.W.Frag.In.keeps hK k, c.t, c.more, nofun, nofun, nofun⟩
def obL (s : PySem.W.SharedT) : He.AlX := obK (HandSHeadRun.getT s)
theorem obL_eq (s : PySem.W.SharedT) : obL s = hkL.obs s.abs := by
  have e : HandSHeadRun.getT s = s.abs.heap.get? := funext (HandSHeadRun.getT_eq s)
  show obK (HandSHeadRun.getT s) = obK s.abs.heap.get?
  rw [e]
noncomputable abbrev rn (w : World) (os : OsState) := HandSHeadRun.endF (HandSHeadRun.stepQ (HandSHeadRun.denQ HandSHeadRun.tabQ) R0.prog w) 12000 R0.prog w os
theorem runA (w : World) (os : OsState) : Option.map (fun s => HandSHeadRun.looksF R0.prog (PySem.W.boot_heap w.params) s.abs) (rn w os) = some true := by
  kernel_rfl
theorem runB (w : World) (os : OsState) : Option.map (fun s => HandSHeadRun.seenQ (PySem.W.view R0.prog [25]) loL (importedModules R0.prog.main.body) (fun s => PySem.W.xlAt (PySem.W.view R0.prog [25]) [] s && PySem.W.recOk R0.records s) s.abs) (rn w os) = some (PySem.W.openGood (PySem.W.view R0.prog [25]) loL) := by
  kernel_rfl
def kf (s : PySem.W.SharedT) : PySem.W.Frag := frK (HandSHeadRun.getT s)
theorem runC1 (w : World) (os : OsState) : Option.map (fun s => faL.all fun f => He.Fa.ok (kf s) f) (rn w os) = some true := by
  kernel_rfl
theorem runC2 (w : World) (os : OsState) : Option.map (fun s => fnL.all fun d => He.DefD.ok (kf s) d) (rn w os) = some true := by
  kernel_rfl
theorem runC3 (w : World) (os : OsState) : Option.map (fun s => fnL.map fun d => He.fnW (kf s) d.at_) (rn w os) = some (fnL.map He.DefD.val) := by
  kernel_rfl
theorem runC4 (w : World) (os : OsState) : Option.map (fun s => exB (kf s)) (rn w os) = some true := by
  kernel_rfl
theorem four {w : World} {o : Option PySem.W.SharedT} (A : Option.map (fun s => faL.all fun f => He.Fa.ok (kf s) f) o = some true) (B : Option.map (fun s => fnL.all fun d => He.DefD.ok (kf s) d) o = some true) (C : Option.map (fun s => fnL.map fun d => He.fnW (kf s) d.at_) o = some (fnL.map He.DefD.val)) (D : Option.map (fun s => exB (kf s)) o = some true) : Option.map obL o = some (hkL.val w) := by
  cases o with
  | none => cases A
  | some s =>
    have a : (faL.all fun f => He.Fa.ok (kf s) f) = true := Option.some.inj A
    have b : (fnL.all fun d => He.DefD.ok (kf s) d) = true := Option.some.inj B
    have c : (fnL.map fun d => He.fnW (kf s) d.at_) = fnL.map He.DefD.val := Option.some.inj C
    have d : exB (kf s) = true := Option.some.inj D
    show some (((((faL.all fun f => He.Fa.ok (kf s) f) && fnL.all fun d => He.DefD.ok (kf s) d), fnL.map fun d => He.fnW (kf s) d.at_), ([] : List (Option (List (Option (Str × Int)))))), exB (kf s)) = some (((true, fnL.map He.DefD.val), []), true)
    rw [a, b, c, d]
    rfl
theorem runC (w : World) (os : OsState) : Option.map obL (rn w os) = some (hkL.val w) := four (runC1 w os) (runC2 w os) (runC3 w os) (runC4 w os)
theorem three {α β γ δ : Type} {o : Option α} {f : α → β} {g : α → γ} {h : α → δ} {b : β} {c : γ} {d : δ} (A : Option.map f o = some b) (B : Option.map g o = some c) (C : Option.map h o = some d) : Option.map (fun s => (f s, g s, h s)) o = some (b, c, d) := by
  cases o with
  | none => cases A
  | some s =>
    have a := Option.some.inj A
    have b2 := Option.some.inj B
    have c2 := Option.some.inj C
    subst a b2 c2
    rfl
theorem runL (w : World) : HandSHeadRun.RunEq R0 (PySem.W.view R0.prog [25]) hkL obL 12000 loL w := by
  intro os
  exact three (runA w os) (runB w os) (runC w os)
end RK
namespace DL
open PySem PySem.Spec PyProof.Rows L2 RK
def ob {α : Type} (o : Option α) (P : α → Prop) : Prop := match o with | some z => P z | none => False
theorem ob_some {α : Type} {z : α} {P : α → Prop} : ob (some z) P = P z := rfl
theorem ob_elim {α : Type} {o : Option α} {P : α → Prop} (h : ob o P) : ∃ z, o = some z ∧ P z := by
  cases o with
  | none => exact h.elim
  | some z => exact ⟨z, rfl, h⟩
mutual
def toPy : D → Option PyData
  | .non => some .none
  | .bl b => some (.bool b)
  | .int i => some (.int i)
  | .str x => some (.str x)
  | .lst xs => (toPyA xs).map .list
  | .tup xs => (toPyA xs).map .tuple
  | _ => none
def toPyA : List D → Option (List PyData)
  | [] => some []
  | d :: ds => (toPy d).bind fun p => (toPyA ds).map fun ps => p :: ps
end
section
variable {K : PySem.W.Frag} {N : Addr → Prop} {W : Wd} {H H' : Hp}
mutual
theorem Dd.py : ∀ {v : V} {d : D} {p : PyData}, Dd K N W H v d → toPy d = some p → Dp K H v p
  | _, _, _, .non, e => by cases Option.some.inj e; exact .non
  | _, _, _, .bl b, e => by cases Option.some.inj e; exact .bl b
  | _, _, _, .int i, e => by cases Option.some.inj e; exact .int i
  | _, _, _, .str x, e => by cases Option.some.inj e; exact .str x
  | _, _, _, .lst h _ a, e => by
    obtain ⟨ps, h1, h2⟩ := Option.map_eq_some_iff.mp e
    subst h2
    exact .lst (SqL.of h) (DdAll.py a h1)
  | _, _, _, .tup h _ a, e => by
    obtain ⟨ps, h1, h2⟩ := Option.map_eq_some_iff.mp e
    subst h2
    exact .tup (SqT.of h) (DdAll.py a h1)
  | _, _, _, .ktp .., e => by cases e
  | _, _, _, .dic .., e => by cases e
  | _, _, _, .dct .., e => by cases e
  | _, _, _, .obj .., e => by cases e
  | _, _, _, .bag .., e => by cases e
  | _, _, _, .fn .., e => by cases e
theorem DdAll.py : ∀ {vs : List V} {ds : List D} {ps : List PyData}, DdAll K N W H vs ds → toPyA ds = some ps → DpAll K H vs ps
  | _, _, _, .nil, e => by cases Option.some.inj e; exact .nil
  | _, _, _, .cons h a, e => by
    obtain ⟨p, h1, h2⟩ := Option.bind_eq_some_iff.mp e
    obtain ⟨ps, h3, h4⟩ := Option.map_eq_some_iff.mp h2
    subst h4
    exact .cons (Dd.py h h1) (DdAll.py a h3)
end
theorem dd_intE {v : V} {i : Int} (h : Dd K N W H v (.int i)) : v = .int i := by cases h; rfl
theorem dd_strE {v : V} {i : Str} (h : Dd K N W H v (.str i)) : v = .str i := by cases h; rfl
theorem dd_blE {v : V} {i : Bool} (h : Dd K N W H v (.bl i)) : v = .bl i := by cases h; rfl
theorem dd_nonE {v : V} (h : Dd K N W H v .non) : v = .non := by cases h; rfl
theorem dd_lstE {v : V} {ds : List D} (h : Dd K N W H v (.lst ds)) : ∃ a vs, v = .ref a ∧ H a = some (.lst vs) ∧ ¬ N a ∧ DdAll K N W H vs ds := by cases h with | lst h1 h2 h3 => exact ⟨_, _, rfl, h1, h2, h3⟩
theorem dd_tupE {v : V} {ds : List D} (h : Dd K N W H v (.tup ds)) : ∃ a vs, v = .ref a ∧ H a = some (.tup vs) ∧ ¬ N a ∧ DdAll K N W H vs ds := by cases h with | tup h1 h2 h3 => exact ⟨_, _, rfl, h1, h2, h3⟩
end
section
variable {F : Fx} {env : De} {σ : L2.St} {L : List Addr} {H H' : Hp}
theorem bw_leaf {v : V} {x : D} (h : Bw F L H v x) (l : x.leaf = true) : Dd F.K (F.N L) F.W H v x := by
  rcases h with h | ⟨e, h1, h2, rfl⟩
  · exact h
  · cases e with
    | no => cases h1
    | fz _ => cases h1
    | oo _ _ _ => cases h1
    | fe _ => cases h1
    | ow _ => cases l
    | od _ => cases l
    | ot _ => cases l
    | otr _ _ => cases l
theorem bw_int {v : V} {i : Int} (h : Bw F L H v (.int i)) : v = .int i := dd_intE (bw_leaf h rfl)
theorem bw_str {v : V} {i : Str} (h : Bw F L H v (.str i)) : v = .str i := dd_strE (bw_leaf h rfl)
theorem bw_bl {v : V} {i : Bool} (h : Bw F L H v (.bl i)) : v = .bl i := dd_blE (bw_leaf h rfl)
theorem bw_non {v : V} (h : Bw F L H v .non) : v = .non := dd_nonE (bw_leaf h rfl)
theorem bw_lst {v : V} {ds : List D} (h : Bw F L H v (.lst ds)) : ∃ a vs, v = .ref a ∧ H a = some (.lst vs) ∧ DdAll F.K (F.N L) F.W H vs ds := by
  rcases h with h | ⟨e, h1, h2, h3⟩
  · obtain ⟨a, vs, h1, h2, _, h3⟩ := dd_lstE h
    exact ⟨a, vs, h1, h2, h3⟩
  · cases e with
    | ow es =>
      cases h3
      cases v with
      | ref a => exact ⟨a, h2.2.choose, rfl, h2.2.choose_spec⟩
      | _ => exact h2.elim
    | no => cases h1
    | fz _ => cases h1
    | oo _ _ _ => cases h1
    | fe _ => cases h1
    | od _ => cases h3
    | ot _ => cases h3
    | otr _ _ => cases h3
theorem bw_tup {v : V} {ds : List D} (h : Bw F L H v (.tup ds)) : ∃ a vs, v = .ref a ∧ H a = some (.tup vs) ∧ DdAll F.K (F.N L) F.W H vs ds := by
  rcases h with h | ⟨e, h1, h2, h3⟩
  · obtain ⟨a, vs, h1, h2, _, h3⟩ := dd_tupE h
    exact ⟨a, vs, h1, h2, h3⟩
  · cases e with
    | no => cases h1
    | fz _ => cases h1
    | oo _ _ _ => cases h1
    | fe _ => cases h1
    | ow _ => cases h3
    | od _ => cases h3
    | ot _ => cases h3
    | otr _ _ => cases h3
theorem bw_dic {v : V} {ds : List (Key × D)} (h : Bw F L H v (.dic ds)) : ∃ a kvs, v = .ref a ∧ Rd H a (.dK kvs) ∧ kvs.map (·.1) = ds.map (·.1) ∧ DdAll F.K (F.N L) F.W H (kvs.map (·.2)) (ds.map (·.2)) := by
  rcases h with h | ⟨e, h1, h2, h3⟩
  · cases h with | dic g1 g2 g3 g4 => exact ⟨_, _, rfl, g1, g3, g4⟩
  · cases e with
    | od es =>
      cases h3
      cases v with
      | ref a =>
        obtain ⟨_, kvs, g1, g2, g3⟩ := h2
        exact ⟨a, kvs, rfl, .inl g1, g2, g3⟩
      | _ => exact h2.elim
    | no => cases h1
    | fz _ => cases h1
    | oo _ _ _ => cases h1
    | fe _ => cases h1
    | ow _ => cases h3
    | ot _ => cases h3
    | otr _ _ => cases h3
theorem bw_dct {v : V} {ds : List (List Key × D)} (h : Bw F L H v (.dct ds)) : ∃ a kvs, v = .ref a ∧ Rd H a (.dT kvs) ∧ kvs.map (·.1) = ds.map (·.1) ∧ DdAll F.K (F.N L) F.W H (kvs.map (·.2)) (ds.map (·.2)) := by
  rcases h with h | ⟨e, h1, h2, h3⟩
  · cases h with | dct g1 g2 g3 g4 => exact ⟨_, _, rfl, g1, g3, g4⟩
  · cases e with
    | ot es =>
      cases h3
      cases v with
      | ref a =>
        obtain ⟨_, kvs, g1, g2, g3⟩ := h2
        exact ⟨a, kvs, rfl, .inl g1, g2, g3⟩
      | _ => exact h2.elim
    | no => cases h1
    | fz _ => cases h1
    | oo _ _ _ => cases h1
    | fe _ => cases h1
    | ow _ => cases h3
    | od _ => cases h3
    | otr _ _ => cases h3
theorem bw_py {v : V} {d : D} {p : PyData} (h : Bw F L H v d) (e : toPy d = some p) : Dp F.K H v p := by
  rcases h with h | ⟨en, h1, h2, h3⟩
  · exact h.py e
  · cases en with
    | ow es =>
      have hh : Bw F L H v (.lst es) := .inr ⟨.ow es, rfl, h2, rfl⟩
      obtain ⟨a, vs, rfl, g2, g3⟩ := bw_lst hh
      subst h3
      obtain ⟨ps, h1, h2⟩ := Option.map_eq_some_iff.mp e
      subst h2
      exact .lst (SqL.of g2) (g3.py h1)
    | no => cases h1
    | fz _ => cases h1
    | oo _ _ _ => cases h1
    | fe _ => cases h1
    | od _ => subst h3; cases e
    | ot _ => subst h3; cases e
    | otr _ _ => subst h3; cases e
theorem Bw.step (A : Abs F env σ L H) (k : KeepW F.W H H') {v : V} {x : D} (h : Bw F L H v x) : Bw F L H' v x := by
  rcases h with h | ⟨e, h1, h2, h3⟩
  · exact .inl (A.kd k h)
  · have w : ∀ a ∈ L, ¬ F.W.own a := fun a h z => A.out h (A.wn a z)
    exact .inr ⟨e, h1, EnOk.keep A (k.n A) (fun _ z => z) (fun a _ _ h => ⟨h, fun o q => k a o (w a h) q⟩) (fun b hb => by rw [ad_ow h1] at hb; cases hb) h2, h3⟩
theorem new_pres (A : Abs F env σ L H) {p : Addr} {o : HO} (hp : H p = none) {vs : List V} {ds : List D} (h : DdAll F.K (F.N L) F.W H vs ds) : DdAll F.K (F.N (p :: L)) F.W (upd H p o) vs ds := h.pres fun a u n g => by
  have ne : a ≠ p := ne_of_none g hp
  refine ⟨fun z => ?_, by rw [upd_ne ne]; exact g⟩
  rcases z with z | z
  · exact n (.inl z)
  · rcases List.mem_cons.mp z with z | z
    · exact ne z
    · exact n (.inr z)
theorem new_lstN (A : Abs F env σ L H) {p : Addr} (hp : H p = none) {vs : List V} {ds : List D} (h : DdAll F.K (F.N L) F.W H vs ds) : NewV F L (upd H p (.lst vs)) p (.lst ds) := ⟨vs, upd_same, new_pres A hp h⟩
theorem new_tupN (A : Abs F env σ L H) {p : Addr} (hp : H p = none) {vs : List V} {ds : List D} (h : DdAll F.K (F.N L) F.W H vs ds) : NewV F L (upd H p (.tup vs)) p (.tup ds) := ⟨vs, upd_same, new_pres A hp h⟩
theorem new_lst (A : Abs F env σ L H) {p : Addr} (hp : H p = none) {vs : List V} {ds : List D} (h : DdAll F.K (F.N L) F.W H vs ds) : Dd F.K (F.N L) F.W (upd H p (.lst vs)) (.ref p) (.lst ds) := .lst upd_same (A.new hp) (A.kda (KeepW.new hp) h)
theorem new_tup (A : Abs F env σ L H) {p : Addr} (hp : H p = none) {vs : List V} {ds : List D} (h : DdAll F.K (F.N L) F.W H vs ds) : Dd F.K (F.N L) F.W (upd H p (.tup vs)) (.ref p) (.tup ds) := .tup upd_same (A.new hp) (A.kda (KeepW.new hp) h)
end
abbrev B2 := D → D → Option D
def Op2 (F : Fx) (r : R2) (f : B2) : Prop := ∀ {env : De} {σ : L2.St} {L : List Addr} {H : Hp} {x y : V} {dx dy z : D}, Abs F env σ L H → Bw F L H x dx → Bw F L H y dy → f dx dy = some z →
  ∀ Q : VK, (∀ v H', KeepW F.W H H' → F.W.ok H' → Dd F.K (F.N L) F.W H' v z → Q v H') → r x y H Q
def Op2N (F : Fx) (r : R2) (f : B2) : Prop := ∀ {env : De} {σ : L2.St} {L : List Addr} {H : Hp} {x y : V} {dx dy z : D}, Abs F env σ L H → Bw F L H x dx → Bw F L H y dy → f dx dy = some z →
  ∀ Q : VK, (∀ a H', KeepW F.W H H' → F.W.ok H' → H a = none → NewV F L H' a z → Q (.ref a) H') → r x y H Q
def dO2 (f : B2) (da db : TDE) : TDE := fun env P => da env fun x => db env fun y => ob (f x y) P
section
variable {X : Cx} {F : Fx} {e a b c : Expr} {d da db dc : TDE} {pos : Pos} {f g : B2} {r r' : R2}
theorem lop2 (h : Op2 F r f) : ∀ σ H Q, lC F (dO2 f da db) σ H Q → tOp r (lB F da) (lB F db) σ H Q := fun σ H Q ⟨env, L, P, A, p, q⟩ =>
  ⟨env, L, _, A, p, fun x v H1 px k1 o1 b1 => ⟨env, L, _, A.step k1 o1, px, fun y u H2 py k2 o2 b2 => by
    obtain ⟨z, e, pz⟩ := ob_elim py
    exact h ((A.step k1 o1).step k2 o2) (b1.step (A.step k1 o1) k2) b2 e Q fun w H3 k3 o3 d3 => q z w H3 pz ((k1.trans k2).trans k3) o3 d3⟩⟩
theorem lop2N (h : Op2N F r f) : ∀ σ H Q, lN F (dO2 f da db) σ H Q → tOp r (lB F da) (lB F db) σ H Q := fun σ H Q ⟨env, L, P, A, p, q⟩ =>
  ⟨env, L, _, A, p, fun x v H1 px k1 o1 b1 => ⟨env, L, _, A.step k1 o1, px, fun y u H2 py k2 o2 b2 => by
    obtain ⟨z, e, pz⟩ := ob_elim py
    refine h ((A.step k1 o1).step k2 o2) (b1.step (A.step k1 o1) k2) b2 e Q fun w H3 k3 o3 hw d3 => q z w H3 pz ((k1.trans k2).trans k3) o3 ?_ d3
    cases zz : H w with
    | none => rfl
    | some o =>
      by_cases ow : F.W.own w
      · obtain ⟨o2', e2⟩ := Wd.al o2 ow
        rw [hw] at e2
        cases e2
      · rw [(k1.trans k2) w o ow zz] at hw
        cases hw⟩⟩
theorem dd_op {op : Operator} (h : Op2 F r f) (ho : OpR X (binaryOp op) r) (ha : PE X a (lB F da)) (hb : PE X b (lB F db)) : PE X (.BinOp a op b pos) (lC F (dO2 f da db)) := PE.mono (pe_op ho ha hb) (lop2 h)
theorem dn_op {op : Operator} (h : Op2N F r f) (ho : OpR X (binaryOp op) r) (ha : PE X a (lB F da)) (hb : PE X b (lB F db)) : PE X (.BinOp a op b pos) (lN F (dO2 f da db)) := PE.mono (pe_op ho ha hb) (lop2N h)
theorem dd_cmp {op : CmpOp} (h : Op2 F r f) (ho : OpR X (compareOp op) r) (ha : PE X a (lB F da)) (hb : PE X b (lB F db)) (hm : behindInMarks op b = false) : PE X (.Compare a [op] [b] pos) (lC F (dO2 f da db)) := PE.mono (pe_cmpR ho ha hb hm) (lop2 h)
def dT (d : TDE) : TDT := fun env P => d env fun x => match x with | .bl b => P b | _ => False
theorem l_test : ∀ σ H Q, lT F (dT d) σ H Q → tTest (lC F d) σ H Q := fun σ H Q ⟨env, L, P, A, p, q⟩ =>
  ⟨env, L, _, A, p, fun x v H1 px k1 o1 d1 => by
    cases x with
    | bl b => cases d1; exact ⟨b, rfl, q b H1 px k1 o1⟩
    | _ => exact px.elim⟩
theorem dt_val (h : PE X e (lC F d)) (he : ∀ whole, isTrue e X.env whole = (do let v ← whole; standAt e.pos; holding [v] (truthy v)) := by intro _; rfl) : PT X e (lT F (dT d)) := PT.mono (pt_val h he) fun σ H Q q => l_test σ H Q q
theorem dt_cmp {op : CmpOp} (h : Op2 F r f) (ho : OpR X (compareOp op) r) (ha : PE X a (lB F da)) (hb : PE X b (lB F db)) (hm : behindInMarks op b = false) : PT X (.Compare a [op] [b] pos) (lT F (dT (dO2 f da db))) :=
  PT.mono (pt_cmpR ho ha hb hm) fun σ H Q ⟨env, L, P, A, p, q⟩ => lop2 h σ H _ ⟨env, L, _, A, p, fun x v H1 px k1 o1 d1 => by
    cases x with
    | bl b => cases d1; exact ⟨b, rfl, q b H1 px k1 o1⟩
    | _ => exact px.elim⟩
def dAndT (t u : TDT) : TDT := fun env P => t env fun x => if x = true then u env P else P false
def dOrT (t u : TDT) : TDT := fun env P => t env fun x => if x = true then P true else u env P
def dNotT (t : TDT) : TDT := fun env P => t env fun x => P (!x)
variable {tA tB : TDT} {rest : List Expr}
theorem wt_and1 (ha : PT X a (lT F tA)) : PW X (.BoolOp .And [a] pos) (lT F tA) := pw_and1 ha
theorem wt_or1 (ha : PT X a (lT F tA)) : PW X (.BoolOp .Or [a] pos) (lT F tA) := pw_or1 ha
theorem wt_and (ha : PT X a (lT F tA)) (hb : PW X (.BoolOp .And (b :: rest) pos) (lT F tB)) : PW X (.BoolOp .And (a :: b :: rest) pos) (lT F (dAndT tA tB)) :=
  PW.mono (pw_and ha hb) fun σ H Q ⟨env, L, P, A, p, q⟩ => ⟨env, L, _, A, p, fun x H1 px k1 o1 => by
    cases x with
    | true => exact iteT ⟨env, L, _, A.step k1 o1, px, fun y H2 py k2 o2 => q y H2 py (k1.trans k2) o2⟩
    | false => exact iteF (q false H1 px k1 o1)⟩
theorem wt_or (ha : PT X a (lT F tA)) (hb : PW X (.BoolOp .Or (b :: rest) pos) (lT F tB)) : PW X (.BoolOp .Or (a :: b :: rest) pos) (lT F (dOrT tA tB)) :=
  PW.mono (pw_or ha hb) fun σ H Q ⟨env, L, P, A, p, q⟩ => ⟨env, L, _, A, p, fun x H1 px k1 o1 => by
    cases x with
    | false => exact iteF ⟨env, L, _, A.step k1 o1, px, fun y H2 py k2 o2 => q y H2 py (k1.trans k2) o2⟩
    | true => exact iteT (q true H1 px k1 o1)⟩
theorem dt_not (ha : PT X a (lT F tA)) : PT X (.UnaryOp .Not a pos) (lT F (dNotT tA)) :=
  PT.mono (pt_not ha) fun σ H Q ⟨env, L, P, A, p, q⟩ => ⟨env, L, _, A, p, fun x H1 px k1 o1 => q (!x) H1 px k1 o1⟩
def dIf (t : TDT) (da db : TDE) : TDE := fun env P => t env fun x => if x = true then da env P else db env P
theorem dd_if (hc : PT X c (lT F tA)) (ha : PE X a (lC F da)) (hb : PE X b (lC F db)) : PE X (.IfExp c a b pos) (lC F (dIf tA da db)) :=
  PE.mono (pe_ifExp hc ha hb) fun σ H Q ⟨env, L, P, A, p, q⟩ => ⟨env, L, _, A, p, fun x H1 px k1 o1 => by
    cases x with
    | false => exact iteF ⟨env, L, _, A.step k1 o1, px, fun y v H2 py k2 o2 d2 => q y v H2 py (k1.trans k2) o2 d2⟩
    | true => exact iteT ⟨env, L, _, A.step k1 o1, px, fun y v H2 py k2 o2 d2 => q y v H2 py (k1.trans k2) o2 d2⟩⟩
def dAndV (da db : TDE) : TDE := fun env P => da env fun x => match x with | .bl b => if b = true then db env P else P (.bl false) | _ => False
def dOrV (da db : TDE) : TDE := fun env P => da env fun x => match x with | .bl b => if b = true then P (.bl true) else db env P | _ => False
def dNotV (da : TDE) : TDE := fun env P => da env fun x => match x with | .bl b => P (.bl (!b)) | _ => False
theorem dd_one {op} (ha : PE X a (lC F da)) : PE X (.BoolOp op [a] pos) (lC F da) := pe_one ha
theorem dd_and (ha : PE X a (lC F da)) (hb : PE X (.BoolOp .And (b :: rest) pos) (lC F db)) : PE X (.BoolOp .And (a :: b :: rest) pos) (lC F (dAndV da db)) :=
  PE.mono (pe_and ha hb) fun σ H Q ⟨env, L, P, A, p, q⟩ => ⟨env, L, _, A, p, fun x v H1 px k1 o1 d1 => by
    cases x with
    | bl b =>
      cases d1
      refine ⟨b, rfl, ?_⟩
      cases b with
      | true => exact iteT ⟨env, L, _, A.step k1 o1, px, fun y v H2 py k2 o2 d2 => q y v H2 py (k1.trans k2) o2 d2⟩
      | false => exact iteF (q _ _ H1 px k1 o1 (.bl false))
    | _ => exact px.elim⟩
end
end DL
namespace DL
open PySem PySem.Spec PyProof.Rows L2 RK
theorem guard_elim {α : Type} {c : Prop} [Decidable c] {x z : α} (h : (if c then some x else none) = some z) : c ∧ x = z := by
  by_cases hc : c
  · rw [if_pos hc] at h
    exact ⟨hc, Option.some.inj h⟩
  · rw [if_neg hc] at h
    cases h
section
variable {X : Cx} {F : Fx} {e a b c : Expr} {d da db dc : TDE} {pos : Pos}
theorem Op2.or {r r' : R2} {f g : B2} (h : Op2 F r f) (h' : Op2 F r' g) : Op2 F (fun x y H Q => r x y H Q ∨ r' x y H Q) (fun x y => (f x y).or (g x y)) := fun A bx byy e Q q => by
  rename_i dx dy z
  replace e : (f dx dy).or (g dx dy) = some z := e
  cases hf : f dx dy with
  | some z' =>
    rw [hf] at e
    exact .inl (h A bx byy (hf.trans e) Q q)
  | none =>
    rw [hf] at e
    exact .inr (h' A bx byy e Q q)
def iI (C : Int → Int → Bool) (g : Int → Int → D) : B2
  | .int i, .int j => if C i j = true then some (g i j) else none
  | _, _ => none
theorem iI_ok {C : Int → Int → Bool} {C' : Int → Int → Prop} {g : Int → Int → D} {gV : Int → Int → V} (hC : ∀ i j, C i j = true → C' i j) (hg : ∀ i j K N W H, Dd K N W H (gV i j) (g i j)) : Op2 F (rI C' gV) (iI C g) := fun A bx byy e Q q => by
  rename_i dx dy z
  cases dx <;> try cases e
  cases dy <;> try cases e
  rename_i i j
  have hx := bw_int bx
  have hy := bw_int byy
  subst hx hy
  obtain ⟨hc, rfl⟩ := guard_elim e
  exact ⟨i, j, rfl, rfl, hC i j hc, q _ _ (.refl _ _) A.ok (hg i j _ _ _ _)⟩
def iI0 (g : Int → Int → D) : B2
  | .int i, .int j => some (g i j)
  | _, _ => none
theorem iI0_ok {g : Int → Int → D} {gV : Int → Int → V} (hg : ∀ i j K N W H, Dd K N W H (gV i j) (g i j)) : Op2 F (rI0 gV) (iI0 g) := fun A bx byy e Q q => by
  rename_i dx dy z
  cases dx <;> try cases e
  cases dy <;> try cases e
  rename_i i j
  have hx := bw_int bx
  have hy := bw_int byy
  subst hx hy
  exact ⟨i, j, rfl, rfl, q _ _ (.refl _ _) A.ok (hg i j _ _ _ _)⟩
def bCat : B2
  | .lst xs, .lst ys => if xs.length + ys.length ≤ sizeLine then some (.lst (xs ++ ys)) else none
  | _, _ => none
theorem cat_okN : Op2N F rCat bCat := fun A bx byy e Q q => by
  rename_i dx dy z
  cases dx <;> try cases e
  cases dy <;> try cases e
  rename_i xs ys
  obtain ⟨l, vs, rfl, h1, h2⟩ := bw_lst bx
  obtain ⟨m, us, rfl, h3, h4⟩ := bw_lst byy
  obtain ⟨hc, rfl⟩ := guard_elim e
  exact ⟨l, m, vs, us, rfl, rfl, h1, h3, by rw [h2.len, h4.len]; exact hc, fun p hp => q p _ (.new hp) (ok_new A.ok hp) hp (new_lstN A hp (h2.app h4))⟩
theorem op2n_c {r : R2} {f : B2} (h : Op2N F r f) : Op2 F r f := fun A bx byy e Q q => h A bx byy e Q fun a H' k o n d => q _ _ k o (d.dd (A.new n))
def bCatS : B2
  | .str x, .str y => if x.length + y.length ≤ sizeLine then some (.str (x ++ y)) else none
  | _, _ => none
theorem catS_ok : Op2 F (fun x y H Q => ∃ i j, x = .str i ∧ y = .str j ∧ i.length + j.length ≤ sizeLine ∧ Q (.str (i ++ j)) H) bCatS := fun A bx byy e Q q => by
  rename_i dx dy z
  cases dx <;> try cases e
  cases dy <;> try cases e
  rename_i xs ys
  have hx := bw_str bx
  have hy := bw_str byy
  subst hx hy
  obtain ⟨hc, rfl⟩ := guard_elim e
  exact ⟨xs, ys, rfl, rfl, hc, q _ _ (.refl _ _) A.ok (.str _)⟩
def bRep : B2
  | .lst xs, .int k => if -(2 ^ 63) ≤ k ∧ k < 2 ^ 63 ∧ xs.length * k.toNat ≤ sizeLine then some (.lst (List.replicate k.toNat xs).flatten) else none
  | _, _ => none
theorem DdAll.rep {K : PySem.W.Frag} {N : Addr → Prop} {W : Wd} {H : Hp} {vs : List V} {ds : List D} (h : DdAll K N W H vs ds) : ∀ n : Nat, DdAll K N W H (List.replicate n vs).flatten (List.replicate n ds).flatten
  | 0 => .nil
  | n + 1 => by
    rw [List.replicate_succ, List.replicate_succ, List.flatten_cons, List.flatten_cons]
    exact h.app (DdAll.rep h n)
def bAdd : B2 := fun x y => (iI0 (fun i j => .int (i + j)) x y).or ((bCatS x y).or (bCat x y))
theorem dd_add (ha : PE X a (lB F da)) (hb : PE X b (lB F db)) : PE X (.BinOp a .Add b pos) (lC F (dO2 bAdd da db)) :=
  dd_op (Op2.or (iI0_ok fun i j _ _ _ _ => .int _) (Op2.or catS_ok (op2n_c cat_okN))) (op_add.or (op_add_str.or op_cat)) ha hb
theorem dn_add (ha : PE X a (lB F da)) (hb : PE X b (lB F db)) : PE X (.BinOp a .Add b pos) (lN F (dO2 bCat da db)) := dn_op cat_okN op_cat ha hb
def bSub : B2 := iI0 fun i j => .int (i - j)
theorem dd_sub (ha : PE X a (lB F da)) (hb : PE X b (lB F db)) : PE X (.BinOp a .Sub b pos) (lC F (dO2 bSub da db)) := dd_op (iI0_ok fun i j _ _ _ _ => .int _) op_sub ha hb
def bMod : B2 := iI (fun _ j => decide (0 < j)) fun i j => .int (i % j)
theorem dd_mod (ha : PE X a (lB F da)) (hb : PE X b (lB F db)) : PE X (.BinOp a .Mod b pos) (lC F (dO2 bMod da db)) := dd_op (iI_ok (fun i j h => of_decide_eq_true h) fun i j _ _ _ _ => .int _) op_mod ha hb
def bPow : B2 := iI (fun i j => decide (0 ≤ j ∧ j ≤ 1000000 ∧ i.natAbs < 2 ^ 64)) fun i j => .int (i ^ j.toNat)
theorem dd_pow (ha : PE X a (lB F da)) (hb : PE X b (lB F db)) : PE X (.BinOp a .Pow b pos) (lC F (dO2 bPow da db)) := dd_op (iI_ok (C' := CPow) (fun i j h => by have h' := of_decide_eq_true h; exact h') fun i j _ _ _ _ => .int _) op_pow ha hb
def bMulI : B2 := iI (fun i j => decide ((-(2 ^ 64) < i ∧ i < 2 ^ 64) ∨ (-(2 ^ 64) < j ∧ j < 2 ^ 64))) fun i j => .int (i * j)
theorem rep_okN : Op2N F rRep bRep := fun A bx byy e Q q => by
  rename_i dx dy z
  cases dx <;> try cases e
  cases dy <;> try cases e
  rename_i xs k
  obtain ⟨l, vs, rfl, h1, h2⟩ := bw_lst bx
  have hy := bw_int byy
  subst hy
  obtain ⟨hc, rfl⟩ := guard_elim e
  exact ⟨l, k, vs, rfl, rfl, h1, hc.1, hc.2.1, by rw [h2.len]; exact hc.2.2, fun p hp => q p _ (.new hp) (ok_new A.ok hp) hp (new_lstN A hp (h2.rep _))⟩
def bRepS : B2
  | .str x, .int n => match x.cps.toList with | [c] => if 1 ≤ n ∧ n ≤ 1000 then some (.str (PySem.Txt.mul ⟨#[c]⟩ n)) else none | _ => none
  | _, _ => none
theorem repS_ok : Op2 F (fun x y H Q => ∃ (c : Nat) (n : Int), x = .str ⟨#[c]⟩ ∧ y = .int n ∧ 1 ≤ n ∧ n ≤ 1000 ∧ Q (.str (PySem.Txt.mul ⟨#[c]⟩ n)) H) bRepS := fun A bx byy e Q q => by
  rename_i dx dy z
  cases dx <;> try cases e
  cases dy <;> try cases e
  rename_i x n
  have hx := bw_str bx
  have hy := bw_int byy
  subst hx hy
  obtain ⟨⟨l⟩⟩ := x
  match l, e with
  | [c], e =>
    obtain ⟨hc, rfl⟩ := guard_elim e
    exact ⟨c, n, rfl, rfl, hc.1, hc.2, q _ _ (.refl _ _) A.ok (.str _)⟩
  | [], e => cases e
  | _ :: _ :: _, e => cases e
def bMul : B2 := fun x y => (bMulI x y).or ((bRep x y).or (bRepS x y))
theorem dd_mul (ha : PE X a (lB F da)) (hb : PE X b (lB F db)) : PE X (.BinOp a .Mult b pos) (lC F (dO2 bMul da db)) :=
  dd_op (Op2.or (iI_ok (C' := CMul) (fun i j h => by have h' := of_decide_eq_true h; exact h') fun i j _ _ _ _ => .int _) (Op2.or (op2n_c rep_okN) repS_ok)) (op_mul.or (op_rep.or op_mul_str)) ha hb
def bLtS : B2
  | .str x, .str y => some (.bl (decide (x.cps.toList < y.cps.toList)))
  | _, _ => none
theorem ltS_ok : Op2 F (fun x y H Q => ∃ i j, x = .str i ∧ y = .str j ∧ Q (.bl (decide (i.cps.toList < j.cps.toList))) H) bLtS := fun A bx byy e Q q => by
  rename_i dx dy z
  cases dx <;> try cases e
  cases dy <;> try cases e
  have hx := bw_str bx
  have hy := bw_str byy
  subst hx hy
  exact ⟨_, _, rfl, rfl, q _ _ (.refl _ _) A.ok (.bl _)⟩
def bLt : B2 := fun x y => (iI0 (fun i j => .bl (decide (i < j))) x y).or (bLtS x y)
theorem dt_lt (ha : PE X a (lB F da)) (hb : PE X b (lB F db)) : PT X (.Compare a [.Lt] [b] pos) (lT F (dT (dO2 bLt da db))) := dt_cmp (Op2.or (iI0_ok fun i j _ _ _ _ => .bl _) ltS_ok) (op_lt.or op_lt_str) ha hb (nomark _)
def bGt : B2 := iI0 fun i j => .bl (decide (j < i))
theorem dd_gt (ha : PE X a (lB F da)) (hb : PE X b (lB F db)) : PE X (.Compare a [.Gt] [b] pos) (lC F (dO2 bGt da db)) := dd_cmp (iI0_ok fun i j _ _ _ _ => .bl _) op_gt ha hb (nomark _)
theorem dt_gt (ha : PE X a (lB F da)) (hb : PE X b (lB F db)) : PT X (.Compare a [.Gt] [b] pos) (lT F (dT (dO2 bGt da db))) := dt_cmp (iI0_ok fun i j _ _ _ _ => .bl _) op_gt ha hb (nomark _)
def eqS (neg : Bool) : B2
  | .int i, .int j => some (.bl (neg ^^ decide (i = j)))
  | .str i, .str j => some (.bl (neg ^^ decide (i = j)))
  | .bl i, .bl j => some (.bl (neg ^^ decide (i = j)))
  | _, _ => none
def eqP (neg : Bool) : B2 := fun x y => match toPy x, toPy y with
  | some p, some q => if SeqAt.shaped p = true ∧ SeqAt.shaped q = true then some (.bl (neg ^^ PyData.eqv p q)) else none
  | _, _ => none
def bEqN (neg : Bool) : B2 := fun x y => (eqS neg x y).or (eqP neg x y)
theorem eqS_ok : Op2 F rEq (eqS false) := fun A bx byy e Q q => by
  rename_i dx dy z
  cases dx <;> try cases e
  all_goals cases dy <;> try cases e
  · have hx := bw_bl bx
    have hy := bw_bl byy
    subst hx hy
    exact ⟨rfl, by simpa using q (.bl _) _ (.refl _ _) A.ok (.bl _)⟩
  · have hx := bw_int bx
    have hy := bw_int byy
    subst hx hy
    exact ⟨rfl, by simpa using q (.bl _) _ (.refl _ _) A.ok (.bl _)⟩
  · have hx := bw_str bx
    have hy := bw_str byy
    subst hx hy
    exact ⟨rfl, by simpa using q (.bl _) _ (.refl _ _) A.ok (.bl _)⟩
theorem neS_ok : Op2 F rNe (eqS true) := fun A bx byy e Q q => by
  rename_i dx dy z
  cases dx <;> try cases e
  all_goals cases dy <;> try cases e
  · have hx := bw_bl bx
    have hy := bw_bl byy
    subst hx hy
    exact ⟨rfl, by simpa using q (.bl _) _ (.refl _ _) A.ok (.bl _)⟩
  · have hx := bw_int bx
    have hy := bw_int byy
    subst hx hy
    exact ⟨rfl, by simpa using q (.bl _) _ (.refl _ _) A.ok (.bl _)⟩
  · have hx := bw_str bx
    have hy := bw_str byy
    subst hx hy
    exact ⟨rfl, by simpa using q (.bl _) _ (.refl _ _) A.ok (.bl _)⟩
theorem eqP_elim {neg : Bool} {dx dy z : D} (e : eqP neg dx dy = some z) : ∃ p q, toPy dx = some p ∧ toPy dy = some q ∧ SeqAt.shaped p = true ∧ SeqAt.shaped q = true ∧ z = .bl (neg ^^ PyData.eqv p q) := by
  unfold eqP at e
  cases h1 : toPy dx with
  | none => rw [h1] at e; cases e
  | some p =>
    cases h2 : toPy dy with
    | none => rw [h1, h2] at e; cases e
    | some q =>
      rw [h1, h2] at e
      by_cases hc : SeqAt.shaped p = true ∧ SeqAt.shaped q = true
      · simp only [if_pos hc] at e
        cases e
        exact ⟨p, q, rfl, rfl, hc.1, hc.2, rfl⟩
      · simp only [if_neg hc] at e
        cases e
theorem eqP_ok : Op2 F (rEqD F.K) (eqP false) := fun A bx byy e Q q => by
  obtain ⟨p1, p2, h1, h2, s1, s2, rfl⟩ := eqP_elim e
  exact ⟨p1, p2, bw_py bx h1, bw_py byy h2, s1, s2, q _ _ (.refl _ _) A.ok (by rw [Bool.false_xor]; exact .bl _)⟩
theorem neP_ok : Op2 F (rNeD F.K) (eqP true) := fun A bx byy e Q q => by
  obtain ⟨p1, p2, h1, h2, s1, s2, rfl⟩ := eqP_elim e
  exact ⟨p1, p2, bw_py bx h1, bw_py byy h2, s1, s2, q _ _ (.refl _ _) A.ok (by rw [Bool.true_xor]; exact .bl _)⟩
variable {k : Nat}
theorem eqR (hr : Room k X.A) (hK : F.K = X.K) : OpR X (compareOp .Eq) (fun x y H Q => rEq x y H Q ∨ rEqD F.K x y H Q) := by
  rw [hK]
  exact op_eq.or (op_eqD hr.units)
theorem neR (hr : Room k X.A) (hK : F.K = X.K) : OpR X (compareOp .NotEq) (fun x y H Q => rNe x y H Q ∨ rNeD F.K x y H Q) := by
  rw [hK]
  exact op_ne.or (op_neD hr.units)
theorem dd_eq (hr : Room k X.A) (ha : PE X a (lB F da)) (hb : PE X b (lB F db)) (hK : F.K = X.K := by rfl) : PE X (.Compare a [.Eq] [b] pos) (lC F (dO2 (bEqN false) da db)) := dd_cmp (Op2.or eqS_ok eqP_ok) (eqR hr hK) ha hb (nomark _)
theorem dt_eq (hr : Room k X.A) (ha : PE X a (lB F da)) (hb : PE X b (lB F db)) (hK : F.K = X.K := by rfl) : PT X (.Compare a [.Eq] [b] pos) (lT F (dT (dO2 (bEqN false) da db))) := dt_cmp (Op2.or eqS_ok eqP_ok) (eqR hr hK) ha hb (nomark _)
theorem dt_ne (hr : Room k X.A) (ha : PE X a (lB F da)) (hb : PE X b (lB F db)) (hK : F.K = X.K := by rfl) : PT X (.Compare a [.NotEq] [b] pos) (lT F (dT (dO2 (bEqN true) da db))) := dt_cmp (Op2.or neS_ok neP_ok) (neR hr hK) ha hb (nomark _)
end
end DL
namespace DL
open PySem PySem.Spec PyProof.Rows L2 RK
def valD {κ : Type} [DecidableEq κ] (kds : List (κ × D)) (k : κ) : Option D := (kds.find? fun kv => decide (kv.1 = k)).map (·.2)
def putD {κ : Type} [DecidableEq κ] (kds : List (κ × D)) (k : κ) (v : D) : List (κ × D) :=
  if (kds.any fun kv => decide (kv.1 = k)) = true then kds.map (fun kv => if kv.1 = k then (kv.1, v) else kv) else kds ++ [(k, v)]
section
variable {K : PySem.W.Frag} {N : Addr → Prop} {W : Wd} {H H' : Hp} {κ : Type} [DecidableEq κ]
theorem val_rel {k : κ} : ∀ {kvs : List (κ × V)} {kds : List (κ × D)}, kvs.map (·.1) = kds.map (·.1) → DdAll K N W H (kvs.map (·.2)) (kds.map (·.2)) →
    (valV kvs k = none ∧ valD kds k = none) ∨ ∃ v d, valV kvs k = some v ∧ valD kds k = some d ∧ Dd K N W H v d
  | [], [], _, _ => .inl ⟨rfl, rfl⟩
  | [], _ :: _, e, _ => by cases e
  | _ :: _, [], e, _ => by cases e
  | (k1, v) :: kvs, (k2, d) :: kds, e, .cons h a => by
    have e1 : k1 = k2 := (List.cons.inj e).1
    have e2 := (List.cons.inj e).2
    subst e1
    by_cases hk : k1 = k
    · exact .inr ⟨v, d, by simp [valV, hk], by simp [valD, hk], h⟩
    · rcases val_rel (k := k) e2 a with ⟨h1, h2⟩ | ⟨v', d', h1, h2, h3⟩
      · left
        constructor
        · simpa [valV, List.find?_cons, hk] using h1
        · simpa [valD, List.find?_cons, hk] using h2
      · refine .inr ⟨v', d', ?_, ?_, h3⟩
        · simpa [valV, List.find?_cons, hk] using h1
        · simpa [valD, List.find?_cons, hk] using h2
end
def keyD : D → Option Key
  | .int i => some (.inl i)
  | .str x => some (.inr x)
  | _ => none
def keysD : List D → Option (List Key)
  | [] => some []
  | d :: ds => (keyD d).bind fun k => (keysD ds).map fun ks => k :: ks
theorem keyD_v {F : Fx} {L : List Addr} {H : Hp} {v : V} {d : D} {k : Key} (b : Bw F L H v d) (e : keyD d = some k) : v = kV k := by
  cases d <;> cases e
  · exact bw_int b
  · exact bw_str b
theorem keysD_v {K : PySem.W.Frag} {N : Addr → Prop} {W : Wd} {H : Hp} : ∀ {vs : List V} {ds : List D} {ks : List Key}, DdAll K N W H vs ds → keysD ds = some ks → vs = ks.map kV
  | _, _, _, .nil, e => by cases e; rfl
  | _, _, _, .cons (v := v) (d := d) h a, e => by
    obtain ⟨k, h1, h2⟩ := Option.bind_eq_some_iff.mp e
    obtain ⟨ks, h3, h4⟩ := Option.map_eq_some_iff.mp h2
    subst h4
    rw [keysD_v a h3]
    cases d <;> cases h1
    · rw [dd_intE h]; rfl
    · rw [dd_strE h]; rfl
def getD : D → D → Option (Option D)
  | .dic kds, y => (keyD y).map fun k => valD kds k
  | .dct kds, .tup ys => (keysD ys).map fun k => valD kds k
  | _, _ => none
theorem getD_ok {F : Fx} {L : List Addr} {H : Hp} {x y : V} {dx dy : D} {r : Option D} (bx : Bw F L H x dx) (bb : Bw F L H y dy) (e : getD dx dy = some r) :
    ∃ a o, x = .ref a ∧ DGet H a y o ∧ ((o = none ∧ r = none) ∨ ∃ v d, o = some v ∧ r = some d ∧ Dd F.K (F.N L) F.W H v d) := by
  cases dx with
  | dic kds =>
    obtain ⟨a, kvs, rfl, h1, h2, h3⟩ := bw_dic bx
    obtain ⟨k, e1, e2⟩ := Option.map_eq_some_iff.mp e
    have hy := keyD_v bb e1
    subst hy e2
    exact ⟨a, valV kvs k, rfl, .inl ⟨kvs, k, h1, rfl, rfl⟩, val_rel h2 h3⟩
  | dct kds =>
    cases dy with
    | tup ys =>
      obtain ⟨a, kvs, rfl, h1, h2, h3⟩ := bw_dct bx
      obtain ⟨b, vs, rfl, g1, g2⟩ := bw_tup bb
      obtain ⟨k, e1, e2⟩ := Option.map_eq_some_iff.mp e
      have hy := keysD_v g2 e1
      subst hy e2
      exact ⟨a, valV kvs k, rfl, .inr ⟨kvs, k, b, h1, rfl, g1, rfl⟩, val_rel h2 h3⟩
    | _ => cases e
  | _ => cases e
def eqF : D → D → Bool
  | .non, .non => true
  | .bl a, .bl b => a == b
  | .bl a, .int b => (if a then 1 else 0) == b
  | .int a, .bl b => a == (if b then 1 else 0)
  | .int a, .int b => a == b
  | .str a, .str b => a == b
  | _, _ => false
def itemsD : D → Option (List D)
  | .lst xs => some xs
  | .tup xs => some xs
  | .ktp xs => some xs
  | _ => none
def inFlat (neg : Bool) : B2 := fun x y => (itemsD y).bind fun ys => if x.leaf = true ∧ ys.all D.leaf = true then some (.bl (neg ^^ ys.any fun y => eqF y x)) else none
def inDeep (neg : Bool) : B2 := fun x y => match toPy x, toPy y with
  | some p, some (.list ps) => if SeqAt.shaped p = true ∧ SeqAt.shaped (.list ps) = true then some (.bl (neg ^^ ps.any fun z => PyData.eqv z p)) else none
  | _, _ => none
def inDict (neg : Bool) : B2 := fun x y => (getD y x).map fun r => .bl (neg ^^ r.isSome)
def inSign (neg : Bool) : B2
  | .str x, .str z => match x.cps.toList with | [c] => some (.bl (neg ^^ decide (c ∈ z.cps.toList))) | _ => none
  | _, _ => none
def bIn (neg : Bool) : B2 := fun x y => (inFlat neg x y).or ((inDict neg x y).or ((inSign neg x y).or (inDeep neg x y)))
theorem leaf_flat {K : PySem.W.Frag} {N : Addr → Prop} {W : Wd} {H : Hp} {v : V} {d : D} (h : Dd K N W H v d) (l : d.leaf = true) : flatV v = true := by cases h <;> first | rfl | cases l
theorem leaf_eq {K : PySem.W.Frag} {N : Addr → Prop} {W : Wd} {H : Hp} {v u : V} {d e : D} (h : Dd K N W H v d) (l : d.leaf = true) (h' : Dd K N W H u e) (l' : e.leaf = true) : eqV v u = eqF d e := by
  cases h <;> cases h' <;> first | rfl | cases l | cases l'
theorem all_leaf {K : PySem.W.Frag} {N : Addr → Prop} {W : Wd} {H : Hp} {v : V} {d : D} (h : Dd K N W H v d) (l : d.leaf = true) : ∀ {vs : List V} {ds : List D}, DdAll K N W H vs ds → ds.all D.leaf = true → vs.all flatV = true ∧ inV v vs = ds.any fun y => eqF y d
  | _, _, .nil, _ => ⟨rfl, rfl⟩
  | _, _, .cons g a, q => by
    rw [List.all_cons, Bool.and_eq_true] at q
    obtain ⟨i1, i2⟩ := all_leaf h l a q.2
    refine ⟨by rw [List.all_cons, leaf_flat g q.1, i1]; rfl, ?_⟩
    unfold inV at i2 ⊢
    rw [List.any_cons, List.any_cons, i2, leaf_eq g q.1 h l]
section
variable {X : Cx} {F : Fx} {e a b c : Expr} {d da db dc : TDE} {pos : Pos}
theorem bw_items {L : List Addr} {H : Hp} {v : V} {y : D} {ys : List D} (h : Bw F L H v y) (e : itemsD y = some ys) : ∃ a vs, v = .ref a ∧ (SqL F.K H a vs ∨ SqT F.K H a vs) ∧ DdAll F.K (F.N L) F.W H vs ys := by
  cases y <;> cases e
  · obtain ⟨a, vs, rfl, h1, h2⟩ := bw_lst h
    exact ⟨a, vs, rfl, .inl (SqL.of h1), h2⟩
  · obtain ⟨a, vs, rfl, h1, h2⟩ := bw_tup h
    exact ⟨a, vs, rfl, .inr (SqT.of h1), h2⟩
  · rcases h with h | ⟨e, h1, h2, h3⟩
    · cases h with | ktp h1 h2 h3 h4 h5 h6 => exact ⟨_, _, rfl, .inr (.inr ⟨_, _, _, h1, h2, h3, h4, h5⟩), h6⟩
    · cases e <;> cases h3
theorem inFlat_ok (neg : Bool) : Op2 F (rIn F.K neg) (inFlat neg) := fun A bx byy e Q q => by
  obtain ⟨ys, h1, h2⟩ := Option.bind_eq_some_iff.mp e
  obtain ⟨⟨l1, l2⟩, rfl⟩ := guard_elim h2
  obtain ⟨p, vs, rfl, g1, g2⟩ := bw_items byy h1
  have dx := bw_leaf bx l1
  obtain ⟨i1, i2⟩ := all_leaf dx l1 g2 l2
  refine ⟨p, vs, rfl, g1, leaf_flat dx l1, i1, ?_⟩
  rw [i2]
  cases neg
  · rw [Bool.false_xor] at q
    exact q _ _ (.refl _ _) A.ok (.bl _)
  · rw [Bool.true_xor] at q
    exact q _ _ (.refl _ _) A.ok (.bl _)
theorem inDeep_elim {neg : Bool} {dx dy z : D} (e : inDeep neg dx dy = some z) : ∃ p ps, toPy dx = some p ∧ toPy dy = some (.list ps) ∧ SeqAt.shaped p = true ∧ SeqAt.shaped (.list ps) = true ∧ z = .bl (neg ^^ ps.any fun z => PyData.eqv z p) := by
  unfold inDeep at e
  cases h1 : toPy dx with
  | none => rw [h1] at e; cases e
  | some p =>
    cases h2 : toPy dy with
    | none => rw [h1, h2] at e; cases e
    | some q =>
      rw [h1, h2] at e
      cases q with
      | list ps =>
        obtain ⟨hc, rfl⟩ := guard_elim e
        exact ⟨p, ps, rfl, rfl, hc.1, hc.2, rfl⟩
      | _ => cases e
theorem inDeep_ok : Op2 F (rInD F.K) (inDeep false) := fun A bx byy e Q q => by
  obtain ⟨p1, p2, h1, h2, s1, s2, rfl⟩ := inDeep_elim e
  exact ⟨p1, p2, bw_py bx h1, bw_py byy h2, s1, s2, q _ _ (.refl _ _) A.ok (by rw [Bool.false_xor]; exact .bl _)⟩
def rDIn (neg : Bool) : R2 := fun x y H Q => ∃ a o, y = .ref a ∧ DGet H a x o ∧ Q (.bl (neg ^^ o.isSome)) H
theorem op_dIn (hu : X.A.units + 1 < cLine) : OpR X (compareOp .In) (rDIn false) := fun pins s σ H x y v u Q I rx ry h => by
  obtain ⟨a, o, rfl, g, q⟩ := h
  cases ry
  exact d_in hu I g rx fun s' I' => ⟨.bl _, H, I', rfl, by simpa using q⟩
theorem inDict_ok (neg : Bool) : Op2 F (rDIn neg) (inDict neg) := fun A bx byy e Q q => by
  obtain ⟨r, h1, rfl⟩ := Option.map_eq_some_iff.mp e
  obtain ⟨a, o, rfl, g, h⟩ := getD_ok byy bx h1
  refine ⟨a, o, rfl, g, ?_⟩
  have : o.isSome = r.isSome := by
    rcases h with ⟨rfl, rfl⟩ | ⟨v, d, rfl, rfl, _⟩ <;> rfl
  rw [this]
  exact q _ _ (.refl _ _) A.ok (.bl _)
theorem inSign_ok (neg : Bool) : Op2 F (fun x y H Q => ∃ (c : Nat) (z : Str), x = .str ⟨#[c]⟩ ∧ y = .str z ∧ Q (.bl (neg ^^ decide (c ∈ z.cps.toList))) H) (inSign neg) := fun A bx byy e Q q => by
  rename_i dx dy z
  cases dx <;> try cases e
  cases dy <;> try cases e
  rename_i x y
  have hx := bw_str bx
  have hy := bw_str byy
  subst hx hy
  obtain ⟨⟨l⟩⟩ := x
  match l, e with
  | [c], e =>
    cases e
    exact ⟨c, y, rfl, rfl, q _ _ (.refl _ _) A.ok (.bl _)⟩
  | [], e => cases e
  | _ :: _ :: _, e => cases e
theorem op_inSg : OpR X (compareOp .In) (fun x y H Q => ∃ (c : Nat) (z : Str), x = .str ⟨#[c]⟩ ∧ y = .str z ∧ Q (.bl (false ^^ decide (c ∈ z.cps.toList))) H) := fun pins s σ H x y v u Q I rx ry ⟨c, z, e1, e2, q⟩ => op_in_sign pins s σ H x y v u Q I rx ry ⟨c, z, e1, e2, by rw [Bool.false_xor] at q; exact q⟩
variable {k : Nat}
theorem u65' (hr : Room k X.A) : X.A.units + 65 < cLine := by have := hr.un; omega
theorem inR (hr : Room k X.A) (hK : F.K = X.K) : OpR X (compareOp .In) (fun x y H Q => rIn F.K false x y H Q ∨ (rDIn false x y H Q ∨ ((∃ (c : Nat) (z : Str), x = .str ⟨#[c]⟩ ∧ y = .str z ∧ Q (.bl (false ^^ decide (c ∈ z.cps.toList))) H) ∨ rInD F.K x y H Q))) := by
  rw [hK]
  exact op_in_seq.or ((op_dIn (hu_of hr)).or (op_inSg.or (op_inD (u65' hr))))
theorem dd_in (hr : Room k X.A) (ha : PE X a (lB F da)) (hb : PE X b (lB F db)) (hm : behindInMarks .In b = false := by rfl) (hK : F.K = X.K := by rfl) : PE X (.Compare a [.In] [b] pos) (lC F (dO2 (bIn false) da db)) :=
  dd_cmp (Op2.or (inFlat_ok false) (Op2.or (inDict_ok false) (Op2.or (inSign_ok false) inDeep_ok))) (inR hr hK) ha hb hm
def dChain (f g : B2) (da db dc : TDE) : TDE := fun env P => da env fun x => db env fun y => ob (f x y) fun z => match z with | .bl true => dc env fun w => ob (g y w) P | .bl false => P (.bl false) | _ => False
end
section
variable {X : Cx} {F : Fx} {e a b c : Expr} {es : List Expr} {d da db dc : TDE} {ds : TDA} {pos : Pos}
def aNil : TDA := fun _ P => P []
def aCons (d : TDE) (ds : TDA) : TDA := fun env P => d env fun x => ds env fun xs => P (x :: xs)
theorem l_nil : ∀ σ H Q, lA F aNil σ H Q → tNil σ H Q := fun σ H Q ⟨env, L, P, A, p, q⟩ => q [] [] H p (.refl _ _) A.ok .nil
theorem l_cons : ∀ σ H Q, lA F (aCons d ds) σ H Q → tCons (lC F d) (lA F ds) σ H Q := fun σ H Q ⟨env, L, P, A, p, q⟩ =>
  ⟨env, L, _, A, p, fun x v H1 px k1 o1 d1 => ⟨env, L, _, A.step k1 o1, px, fun xs vs H2 pxs k2 o2 d2 => q (x :: xs) (v :: vs) H2 pxs (k1.trans k2) o2 (.cons ((A.step k1 o1).kd k2 d1) d2)⟩⟩
theorem da_nil : PA X [] (lA F aNil) := PA.mono pa_nil l_nil
theorem da_cons (ha : PE X e (lC F d)) (hr : PA X es (lA F ds)) (hs : starEach (e :: es) X.env = (false, eval e X.env) :: starEach es X.env := by rfl) : PA X (e :: es) (lA F (aCons d ds)) := PA.mono (pa_cons ha hr hs) l_cons
theorem dk_nil : PK X [] (lA F aNil) := PK.mono pk_nil l_nil
theorem dk_cons {nm : Option Str} {kpos : Pos} {kws : List Keyword} (ha : PE X e (lC F d)) (hr : PK X kws (lA F ds)) : PK X (⟨nm, e, kpos⟩ :: kws) (lA F (aCons d ds)) := PK.mono (pk_cons ha hr) l_cons
def dTup (ds : TDA) : TDE := fun env P => ds env fun xs => xs.length ≤ sizeLine ∧ P (.tup xs)
def dLst (ds : TDA) : TDE := fun env P => ds env fun xs => xs.length ≤ sizeLine ∧ P (.lst xs)
theorem free_of {W : Wd} {H H1 : Hp} (k : KeepW W H H1) (o : W.ok H1) {a : Addr} (h : H1 a = none) : H a = none := by
  cases zz : H a with
  | none => rfl
  | some u =>
    by_cases ow : W.own a
    · obtain ⟨u2, e2⟩ := Wd.al o ow
      rw [h] at e2
      cases e2
    · rw [k a u ow zz] at h
      cases h
theorem dn_tup {x1} (h : PA X es (lA F ds)) : PE X (.Tuple es x1 pos) (lN F (dTup ds)) := PE.mono (pe_tup h) fun σ H Q ⟨env, L, P, A, p, q⟩ =>
  ⟨env, L, _, A, p, fun xs vs H1 pxs k1 o1 d1 => ⟨by rw [d1.len]; exact pxs.1, fun t ht => q _ t _ pxs.2 (k1.trans (.new ht)) (ok_new o1 ht) (free_of k1 o1 ht) (new_tupN (A.step k1 o1) ht d1)⟩⟩
theorem dn_lst (h : PA X es (lA F ds)) : PE X (.List es pos) (lN F (dLst ds)) := PE.mono (pe_lst h) fun σ H Q ⟨env, L, P, A, p, q⟩ =>
  ⟨env, L, _, A, p, fun xs vs H1 pxs k1 o1 d1 => ⟨by rw [d1.len]; exact pxs.1, fun t ht => q _ t _ pxs.2 (k1.trans (.new ht)) (ok_new o1 ht) (free_of k1 o1 ht) (new_lstN (A.step k1 o1) ht d1)⟩⟩
end
end DL
namespace DL
open PySem PySem.Spec PyProof.Rows L2 RK
theorem DdAll.at {K : PySem.W.Frag} {N : Addr → Prop} {W : Wd} {H : Hp} {vs : List V} {ds : List D} {i : Int} {d : D} (a : DdAll K N W H vs ds) (h : atI ds i = some d) : ∃ v, atI vs i = some v ∧ Dd K N W H v d := by
  unfold atI at h ⊢
  rw [a.len]
  obtain ⟨j, h1, h2⟩ := Option.bind_eq_some_iff.mp h
  obtain ⟨v, h3, h4⟩ := a.get h2
  exact ⟨v, by rw [h1]; exact h3, h4⟩
def ixSeq : B2
  | .lst xs, .int i => atI xs i
  | .tup xs, .int i => atI xs i
  | .ktp xs, .int i => atI xs i
  | _, _ => none
def ixStr : B2
  | .str z, .int i => if z.length ≤ sizeLine then (atI z.cps.toList i).map fun c => .str ⟨#[c]⟩ else none
  | _, _ => none
def ixDic : B2 := fun x y => (getD x y).bind fun r => r
def bIx : B2 := fun x y => (ixSeq x y).or ((ixStr x y).or (ixDic x y))
section
variable {X : Cx} {F : Fx} {e a b c : Expr} {d da db dc : TDE} {pos : Pos}
theorem ixSeq_ok : Op2 F (fun x y H Q => rIxL F.K x y H Q ∨ rIxT F.K x y H Q) ixSeq := fun A bx byy e Q q => by
  rename_i dx dy z
  cases dx <;> try cases e
  all_goals cases dy <;> try cases e
  · obtain ⟨p, vs, rfl, h1, h2⟩ := bw_lst bx
    have hy := bw_int byy
    subst hy
    obtain ⟨v, h3, h4⟩ := h2.at e
    exact .inl ⟨p, vs, _, v, rfl, rfl, SqL.of h1, h3, q _ _ (.refl _ _) A.ok h4⟩
  · obtain ⟨p, vs, rfl, h1, h2⟩ := bw_tup bx
    have hy := bw_int byy
    subst hy
    obtain ⟨v, h3, h4⟩ := h2.at e
    exact .inr ⟨p, vs, _, v, rfl, rfl, SqT.of h1, h3, q _ _ (.refl _ _) A.ok h4⟩
  · obtain ⟨p, vs, rfl, h1, h2⟩ := bw_items bx rfl
    have hy := bw_int byy
    subst hy
    obtain ⟨v, h3, h4⟩ := h2.at e
    rcases h1 with h1 | h1
    · exact .inl ⟨p, vs, _, v, rfl, rfl, h1, h3, q _ _ (.refl _ _) A.ok h4⟩
    · exact .inr ⟨p, vs, _, v, rfl, rfl, h1, h3, q _ _ (.refl _ _) A.ok h4⟩
theorem ixStr_ok : Op2 F rIxS ixStr := fun A bx byy e Q q => by
  rename_i dx dy z
  cases dx <;> try cases e
  cases dy <;> try cases e
  rename_i x i
  have hx := bw_str bx
  have hy := bw_int byy
  subst hx hy
  replace e : (if x.length ≤ sizeLine then (atI x.cps.toList i).map fun c => D.str ⟨#[c]⟩ else none) = some z := e
  by_cases hl : x.length ≤ sizeLine
  · rw [if_pos hl] at e
    obtain ⟨c, h1, rfl⟩ := Option.map_eq_some_iff.mp e
    exact ⟨x, i, c, rfl, rfl, hl, h1, q _ _ (.refl _ _) A.ok (.str _)⟩
  · rw [if_neg hl] at e
    cases e
def rDG : R2 := fun x y H Q => ∃ a v, x = .ref a ∧ DGet H a y (some v) ∧ Q v H
theorem ix_dict (hu : X.A.units + 1 < cLine) : IxR X rDG := fun value slice pins s σ H x y v u Q I rx ry h hs => by
  obtain ⟨a, w, e1, g, q⟩ := h
  subst e1
  cases rx
  have tI := dict_typeIs I g
  have got : wpAny (model X.prog X.w) X.A (getItem (.ref a) u) (EP X pins σ Q) X.xe s := d_getItem hu I g ry fun w' s3 I3 rw' => ⟨w, H, I3, rw', q⟩
  unfold PyProof.Rows.subscriptTail
  refine wpAny_bind ?_
  rw [getitemInPython_of_ne tI.not_modules]
  refine wpAny_bind (wpAny_specialOf tI PySem.F.slot_dict_getitem.lookup ?_)
  have behind : wpAny (model X.prog X.w) X.A (subscripted slice false (.ref a) u) (fun z s3 => wpAny (model X.prog X.w) X.A (letTemporaryGo value (.ref a) z >>= fun _ => pure z) (EP X pins σ Q) X.xe s3) X.xe s := by
    rw [hs]
    exact wpAny_operating (wpAny_mono got (fun z s3 h3 => wpAny_bind (wpAny_letTemporaryGo (wpAny_pure h3))) fun _ _ k => k)
  first
    | exact wpAny_pure (wpAny_bind behind)
    | exact wpAny_bind (wpAny_pure (wpAny_bind behind))
    | exact wpAny_bind behind
theorem ixDic_ok : Op2 F rDG ixDic := fun A bx byy e Q q => by
  obtain ⟨r, h1, h2⟩ := Option.bind_eq_some_iff.mp e
  subst h2
  obtain ⟨a, o, rfl, g, h⟩ := getD_ok bx byy h1
  rcases h with ⟨_, h⟩ | ⟨v, d, rfl, h, hd⟩
  · cases h
  · cases h
    exact ⟨a, v, rfl, g, q _ _ (.refl _ _) A.ok hd⟩
variable {k : Nat}
theorem ixR (hr : Room k X.A) (hK : F.K = X.K) : IxR X (fun x y H Q => (rIxL F.K x y H Q ∨ rIxT F.K x y H Q) ∨ (rIxS x y H Q ∨ rDG x y H Q)) := by
  rw [hK]
  exact (ix_list.or ix_tup).or (ix_str.or (ix_dict (hu_of hr)))
theorem dd_ix (hr : Room k X.A) (ha : PE X a (lB F da)) (hb : PE X b (lB F db)) (hs : PlainIx b := by intro _ _; rfl) (hK : F.K = X.K := by rfl) : PE X (.Subscript a b pos) (lC F (dO2 bIx da db)) :=
  PE.mono (pe_ix (ixR hr hK) ha hb hs) (lop2 (Op2.or ixSeq_ok (Op2.or ixStr_ok ixDic_ok)))
def cutD (xs : List D) (lo hi : Option Int) : List D := (xs.drop (HT.sIx xs.length 0 lo)).take (HT.sIx xs.length xs.length hi - HT.sIx xs.length 0 lo)
theorem DdAll.cut {K : PySem.W.Frag} {N : Addr → Prop} {W : Wd} {H : Hp} {vs : List V} {ds : List D} (a : DdAll K N W H vs ds) (lo hi : Option Int) : DdAll K N W H (cutV vs lo hi) (cutD ds lo hi) := by
  unfold cutV cutD
  rw [a.len]
  exact (a.drop _).take _
abbrev TDO := De → (Option Int → Prop) → Prop
def oNone : TDO := fun _ P => P none
def oSome (d : TDE) : TDO := fun env P => d env fun x => match x with | .int i => P (some i) | _ => False
def lO (F : Fx) (d : TDO) : TO := fun σ H Q => ∃ env L P, Abs F env σ L H ∧ d env P ∧ ∀ x H', P x → KeepW F.W H H' → F.W.ok H' → Q x H'
theorem PO.mono {e : Option Expr} {t t' : TO} (h : L2.PO X e t) (m : ∀ σ H Q, t' σ H Q → t σ H Q) : L2.PO X e t' := ⟨fun pins s σ H Q I q => h.run pins s σ H Q I (m σ H Q q)⟩
theorem do_none : L2.PO X none (lO F oNone) := PO.mono po_none fun σ H Q ⟨env, L, P, A, p, q⟩ => q none H p (.refl _ _) A.ok
theorem do_some (h : PE X e (lC F d)) : L2.PO X (some e) (lO F (oSome d)) := PO.mono (po_some h) fun σ H Q ⟨env, L, P, A, p, q⟩ => ⟨env, L, _, A, p, fun x v H1 px k1 o1 d1 => by
  cases x with
  | int i => cases d1; exact ⟨i, rfl, q _ H1 px k1 o1⟩
  | _ => exact px.elim⟩
def cutL (x : D) (lo hi : Option Int) : Option D := match x with
  | .lst xs => some (.lst (cutD xs lo hi))
  | _ => none
def cutA (x : D) (lo hi : Option Int) : Option D := match x with
  | .lst xs => some (.lst (cutD xs lo hi))
  | .tup xs => if HT.sIx xs.length 0 lo = 0 ∧ HT.sIx xs.length xs.length hi = xs.length then none else some (.tup (cutD xs lo hi))
  | .str z => if z.length ≤ sizeLine then some (.str (cutS z lo hi)) else none
  | _ => none
def dCut (f : D → Option Int → Option Int → Option D) (de : TDE) (dl dh : TDO) : TDE := fun env P => de env fun x => dl env fun l => dh env fun h => ob (f x l h) P
theorem slR (hK : F.K = X.K) : SlR X (fun x lo hi H Q => rSlL F.K x lo hi H Q ∨ (rSlT F.K x lo hi H Q ∨ rSlS x lo hi H Q)) := by
  rw [hK]
  exact sl_list.or (sl_tup.or sl_str)
variable {lo hi : Option Expr} {dl dh : TDO} {p2 : Pos}
theorem dd_cut (he : PE X e (lB F d)) (hl : L2.PO X lo (lO F dl)) (hu : L2.PO X hi (lO F dh)) (hK : F.K = X.K := by rfl) : PE X (.Subscript e (.Slice lo hi none p2) pos) (lC F (dCut cutA d dl dh)) :=
  PE.mono (pe_slice (slR hK) he hl hu) fun σ H Q ⟨env, L, P, A, p, q⟩ => ⟨env, L, _, A, p, fun x v H1 px k1 o1 b1 => ⟨env, L, _, A.step k1 o1, px, fun l H2 pl k2 o2 => ⟨env, L, _, (A.step k1 o1).step k2 o2, pl, fun h H3 ph k3 o3 => by
    obtain ⟨z, e, pz⟩ := ob_elim ph
    have A3 := ((A.step k1 o1).step k2 o2).step k3 o3
    have b3 := (b1.step (A.step k1 o1) k2).step ((A.step k1 o1).step k2 o2) k3
    have kk := (k1.trans k2).trans k3
    cases x with
    | lst xs =>
      cases e
      obtain ⟨a, vs, rfl, h1, h2⟩ := bw_lst b3
      exact .inl ⟨a, vs, rfl, SqL.of h1, fun t ht => q _ _ _ pz (kk.trans (.new ht)) (ok_new o3 ht) (new_lst A3 ht (h2.cut l h))⟩
    | tup xs =>
      obtain ⟨a, vs, rfl, h1, h2⟩ := bw_tup b3
      replace e : (if HT.sIx xs.length 0 l = 0 ∧ HT.sIx xs.length xs.length h = xs.length then none else some (D.tup (cutD xs l h))) = some z := e
      by_cases hc : HT.sIx xs.length 0 l = 0 ∧ HT.sIx xs.length xs.length h = xs.length
      · rw [if_pos hc] at e
        cases e
      · rw [if_neg hc] at e
        cases e
        exact .inr (.inl ⟨a, vs, rfl, SqT.of h1, by rw [h2.len]; exact hc, fun t ht => q _ _ _ pz (kk.trans (.new ht)) (ok_new o3 ht) (new_tup A3 ht (h2.cut l h))⟩)
    | str s =>
      have hs := bw_str b3
      subst hs
      obtain ⟨hc, rfl⟩ := guard_elim e
      exact .inr (.inr ⟨s, rfl, hc, q _ _ _ pz kk o3 (.str _)⟩)
    | _ => cases e⟩⟩⟩
theorem dn_cut (he : PE X e (lB F d)) (hl : L2.PO X lo (lO F dl)) (hu : L2.PO X hi (lO F dh)) (hK : F.K = X.K := by rfl) : PE X (.Subscript e (.Slice lo hi none p2) pos) (lN F (dCut cutL d dl dh)) :=
  PE.mono (pe_slice (slR hK) he hl hu) fun σ H Q ⟨env, L, P, A, p, q⟩ => ⟨env, L, _, A, p, fun x v H1 px k1 o1 b1 => ⟨env, L, _, A.step k1 o1, px, fun l H2 pl k2 o2 => ⟨env, L, _, (A.step k1 o1).step k2 o2, pl, fun h H3 ph k3 o3 => by
    obtain ⟨z, e, pz⟩ := ob_elim ph
    have A3 := ((A.step k1 o1).step k2 o2).step k3 o3
    have b3 := (b1.step (A.step k1 o1) k2).step ((A.step k1 o1).step k2 o2) k3
    have kk := (k1.trans k2).trans k3
    cases x with
    | lst xs =>
      cases e
      obtain ⟨a, vs, rfl, h1, h2⟩ := bw_lst b3
      exact .inl ⟨a, vs, rfl, SqL.of h1, fun t ht => q _ _ _ pz (kk.trans (.new ht)) (ok_new o3 ht) (free_of kk o3 ht) (new_lstN A3 ht (h2.cut l h))⟩
    | _ => cases e⟩⟩⟩
def dRev (d : TDE) : TDE := fun env P => d env fun x => match x with | .lst xs => P (.lst xs.reverse) | _ => False
def dNeg (d : TDE) : TDE := fun env P => d env fun x => match x with | .int i => P (.int (-i)) | _ => False
theorem dd_neg (ha : PE X a (lC F d)) : PE X (.UnaryOp .USub a pos) (lC F (dNeg d)) := PE.mono (pe_un un_neg ha) fun σ H Q ⟨env, L, P, A, p, q⟩ => ⟨env, L, _, A, p, fun x v H1 px k1 o1 d1 => by
  cases x with
  | int i => cases d1; exact ⟨i, rfl, q _ _ H1 px k1 o1 (.int _)⟩
  | _ => exact px.elim⟩
def truD : D → Option Bool
  | .non => some false
  | .bl b => some b
  | .int i => some (i != 0)
  | .str y => if y.length ≤ sizeLine then some ((y.length : Int) != 0) else none
  | .lst xs => some (!xs.isEmpty)
  | .tup xs => some (!xs.isEmpty)
  | _ => none
def dTru (d : TDE) : TDT := fun env P => d env fun x => ob (truD x) P
theorem empty_len {K : PySem.W.Frag} {N : Addr → Prop} {W : Wd} {H : Hp} {vs : List V} {ds : List D} (a : DdAll K N W H vs ds) : (!ds.isEmpty) = !vs.isEmpty := by cases a <;> rfl
theorem dt_tru (ha : PE X a (lB F d)) (he : ∀ whole, isTrue a X.env whole = (do let v ← whole; standAt a.pos; holding [v] (truthy v)) := by intro _; rfl) (hK : F.K = X.K := by rfl) : PT X a (lT F (dTru d)) := PT.mono (pt_truth ha he) fun σ H Q ⟨env, L, P, A, p, q⟩ => ⟨env, L, _, A, p, fun x v H1 px k1 o1 b1 => by
  obtain ⟨z, e, pz⟩ := ob_elim px
  refine ⟨z, ?_, q _ H1 pz k1 o1⟩
  rw [← hK]
  cases x with
  | non => rw [bw_non b1]; cases e; rfl
  | bl _ => rw [bw_bl b1]; cases e; rfl
  | int _ => rw [bw_int b1]; cases e; rfl
  | str _ =>
    rw [bw_str b1]
    obtain ⟨hc, rfl⟩ := guard_elim e
    exact ⟨hc, rfl⟩
  | lst _ =>
    obtain ⟨a, vs, rfl, h1, h2⟩ := bw_lst b1
    cases e
    exact .inl ⟨vs, SqL.of h1, empty_len h2⟩
  | tup _ =>
    obtain ⟨a, vs, rfl, h1, h2⟩ := bw_tup b1
    cases e
    exact .inr (.inl ⟨vs, SqT.of h1, empty_len h2⟩)
  | _ => cases e⟩
end
end DL
namespace DL
open PySem PySem.Spec PyProof.Rows L2 RK
abbrev BwA (F : Fx) (L : List Addr) (H : Hp) : List V → List D → Prop := Paired (Bw F L H)
def lAb (F : Fx) (d : TDA) : TA := fun σ H Q => ∃ env L P, Abs F env σ L H ∧ d env P ∧ ∀ xs vs H', P xs → KeepW F.W H H' → F.W.ok H' → BwA F L H' vs xs → Q vs H'
section
variable {X : Cx} {F : Fx} {e a b c : Expr} {es : List Expr} {d da db dc : TDE} {ds : TDA} {pos : Pos}
theorem db_nil : PA X [] (lAb F aNil) := PA.mono pa_nil fun σ H Q ⟨env, L, P, A, p, q⟩ => q [] [] H p (.refl _ _) A.ok .nil
theorem db_cons (ha : PE X e (lB F d)) (hr : PA X es (lAb F ds)) (hs : starEach (e :: es) X.env = (false, eval e X.env) :: starEach es X.env := by rfl) : PA X (e :: es) (lAb F (aCons d ds)) := PA.mono (pa_cons ha hr hs) fun σ H Q ⟨env, L, P, A, p, q⟩ =>
  ⟨env, L, _, A, p, fun x v H1 px k1 o1 d1 => ⟨env, L, _, A.step k1 o1, px, fun xs vs H2 pxs k2 o2 d2 => q (x :: xs) (v :: vs) H2 pxs (k1.trans k2) o2 (.cons (d1.step (A.step k1 o1) k2) d2)⟩⟩
def Ca (F : Fx) (r : List V → Hp → VK → Prop) (f : List D → Option D) : Prop := ∀ {env : De} {σ : L2.St} {L : List Addr} {H : Hp} {vs : List V} {ds : List D} {z : D}, Abs F env σ L H → BwA F L H vs ds → f ds = some z →
  ∀ Q : VK, (∀ v H', KeepW F.W H H' → F.W.ok H' → Dd F.K (F.N L) F.W H' v z → Q v H') → r vs H Q
def CaN (F : Fx) (r : List V → Hp → VK → Prop) (f : List D → Option D) : Prop := ∀ {env : De} {σ : L2.St} {L : List Addr} {H : Hp} {vs : List V} {ds : List D} {z : D}, Abs F env σ L H → BwA F L H vs ds → f ds = some z →
  ∀ Q : VK, (∀ a H', KeepW F.W H H' → F.W.ok H' → H a = none → NewV F L H' a z → Q (.ref a) H') → r vs H Q
def dCa (f : List D → Option D) (ds : TDA) : TDE := fun env P => ds env fun xs => ob (f xs) P
theorem lca {r : List V → Hp → VK → Prop} {f : List D → Option D} (h : Ca F r f) : ∀ σ H Q, lC F (dCa f ds) σ H Q → tCB r (lAb F ds) σ H Q := fun σ H Q ⟨env, L, P, A, p, q⟩ =>
  ⟨env, L, _, A, p, fun xs vs H1 px k1 o1 d1 => by
    obtain ⟨z, e, pz⟩ := ob_elim px
    exact h (A.step k1 o1) d1 e Q fun v H2 k2 o2 d2 => q z v H2 pz (k1.trans k2) o2 d2⟩
theorem lcaN {r : List V → Hp → VK → Prop} {f : List D → Option D} (h : CaN F r f) : ∀ σ H Q, lN F (dCa f ds) σ H Q → tCB r (lAb F ds) σ H Q := fun σ H Q ⟨env, L, P, A, p, q⟩ =>
  ⟨env, L, _, A, p, fun xs vs H1 px k1 o1 d1 => by
    obtain ⟨z, e, pz⟩ := ob_elim px
    exact h (A.step k1 o1) d1 e Q fun v H2 k2 o2 n2 d2 => q z v H2 pz (k1.trans k2) o2 (free_of k1 o1 n2) d2⟩
theorem CallR.or {f : Value} {r r' : List V → Hp → VK → Prop} (h : CallR X f r) (h' : CallR X f r') : CallR X f (fun xs H Q => r xs H Q ∨ r' xs H Q) := fun pins s σ H xs us Q I rx q => by
  rcases q with q | q
  · exact h pins s σ H xs us Q I rx q
  · exact h' pins s σ H xs us Q I rx q
def lenD : List D → Option D
  | [.lst xs] => some (.int xs.length)
  | [.tup xs] => some (.int xs.length)
  | [.ktp xs] => some (.int xs.length)
  | [.str z] => if z.length ≤ sizeLine then some (.int z.length) else none
  | [.dic kds] => some (.int kds.length)
  | _ => none
theorem call_lenR : CallR X (.builtin "len") (fun xs H Q => ∃ a kvs, xs = [V.ref a] ∧ Rd H a (.dK kvs) ∧ Q (.int kvs.length) H) := fun pins s σ H xs us Q I r h => by
  obtain ⟨a, kvs, rfl, ha, q⟩ := h
  obtain ⟨u, rfl, ru⟩ := vals1 r
  cases ru
  exact d_len I ha fun t s' I' => ⟨.int kvs.length, H, I', ⟨t, rfl⟩, q⟩
theorem len_ok : Ca F (fun xs H Q => (∃ x n, xs = [x] ∧ LenV F.K x H n ∧ Q (.int n) H) ∨ (∃ a kvs, xs = [V.ref a] ∧ Rd H a (.dK kvs) ∧ Q (.int kvs.length) H)) lenD := fun A b e Q q => by
  rename_i dl z
  match dl, b, e with
  | [.lst xs], .cons h .nil, e =>
    obtain ⟨a, vs, rfl, h1, h2⟩ := bw_lst h
    cases e
    exact .inl ⟨_, _, rfl, .inl ⟨vs, SqL.of h1, rfl⟩, by rw [h2.len]; exact q _ _ (.refl _ _) A.ok (.int _)⟩
  | [.tup xs], .cons h .nil, e =>
    obtain ⟨a, vs, rfl, h1, h2⟩ := bw_tup h
    cases e
    exact .inl ⟨_, _, rfl, .inr ⟨vs, SqT.of h1, rfl⟩, by rw [h2.len]; exact q _ _ (.refl _ _) A.ok (.int _)⟩
  | [.ktp xs], .cons h .nil, e =>
    obtain ⟨a, vs, rfl, h1, h2⟩ := bw_items h rfl
    cases e
    exact .inl ⟨_, vs.length, rfl, h1.imp (fun h => ⟨vs, h, rfl⟩) (fun h => ⟨vs, h, rfl⟩), by rw [h2.len]; exact q _ _ (.refl _ _) A.ok (.int _)⟩
  | [.str x], .cons h .nil, e =>
    have hx := bw_str h
    subst hx
    obtain ⟨hc, rfl⟩ := guard_elim e
    exact .inl ⟨_, _, rfl, ⟨hc, rfl⟩, q _ _ (.refl _ _) A.ok (.int _)⟩
  | [.dic kds], .cons h .nil, e =>
    obtain ⟨a, kvs, rfl, h1, h2, h3⟩ := bw_dic h
    cases e
    have : kvs.length = kds.length := by simpa using congrArg List.length h2
    exact .inr ⟨_, _, rfl, h1, by rw [this]; exact q _ _ (.refl _ _) A.ok (.int _)⟩
theorem lenR (hK : F.K = X.K) : CallR X (.builtin "len") (fun xs H Q => (∃ x n, xs = [x] ∧ LenV F.K x H n ∧ Q (.int n) H) ∨ (∃ a kvs, xs = [V.ref a] ∧ Rd H a (.dK kvs) ∧ Q (.int kvs.length) H)) := by
  rw [hK]
  exact CallR.or call_len call_lenR
variable {p : Pos}
theorem dd_len (hg : Gl X "len") (hm : X.mg "len" = none) (ha : PE X e (lB F d)) (he : starEach [e] X.env = (false, eval e X.env) :: starEach [] X.env := by rfl) (hpl : (backTo pos (starEach [] X.env)).any (·.1) = false := by rfl) (hK : F.K = X.K := by rfl) :
    PE X (.Call (.Name "len" p) [e] [] pos) (lC F (dCa lenD (aCons d aNil))) := PE.mono (pe_callB (lenR hK) hg hm (by decide +kernel) (db_cons ha db_nil he) (by decide) (by decide) he hpl) (lca len_ok)
def blsD : List D → Option (List Bool)
  | [] => some []
  | .bl b :: ds => (blsD ds).map fun bs => b :: bs
  | _ => none
def intsD : List D → Option (List Int)
  | [] => some []
  | .int i :: ds => (intsD ds).map fun is => i :: is
  | _ => none
def strsD : List D → Option (List Str)
  | [] => some []
  | .str i :: ds => (strsD ds).map fun is => i :: is
  | _ => none
theorem bls_v {K : PySem.W.Frag} {N : Addr → Prop} {W : Wd} {H : Hp} : ∀ {vs : List V} {ds : List D} {bs : List Bool}, DdAll K N W H vs ds → blsD ds = some bs → vs = bs.map V.bl
  | _, _, _, .nil, e => by cases e; rfl
  | _, _, _, .cons (d := d) h a, e => by
    cases d <;> try cases e
    obtain ⟨bs, h1, rfl⟩ := Option.map_eq_some_iff.mp e
    rw [bls_v a h1, dd_blE h]
    rfl
theorem ints_v {K : PySem.W.Frag} {N : Addr → Prop} {W : Wd} {H : Hp} : ∀ {vs : List V} {ds : List D} {bs : List Int}, DdAll K N W H vs ds → intsD ds = some bs → vs = bs.map V.int
  | _, _, _, .nil, e => by cases e; rfl
  | _, _, _, .cons (d := d) h a, e => by
    cases d <;> try cases e
    obtain ⟨bs, h1, rfl⟩ := Option.map_eq_some_iff.mp e
    rw [ints_v a h1, dd_intE h]
    rfl
theorem intsD_map : ∀ zs : List Int, intsD (zs.map D.int) = some zs
  | [] => rfl
  | z :: zs => by show (intsD (zs.map D.int)).map _ = _; rw [intsD_map zs]; rfl
theorem blsD_map : ∀ zs : List Bool, blsD (zs.map D.bl) = some zs
  | [] => rfl
  | z :: zs => by show (blsD (zs.map D.bl)).map _ = _; rw [blsD_map zs]; rfl
def allD : List D → Option D
  | [.lst ds] => (blsD ds).map fun bs => .bl (bs.all id)
  | _ => none
def sumD : List D → Option D
  | [.lst ds] => (intsD ds).map fun bs => .int bs.sum
  | _ => none
theorem all_ok : Ca F (rAll F.K) allD := fun A b e Q q => by
  rename_i dl z
  match dl, b, e with
  | [.lst xs], .cons h .nil, e =>
    obtain ⟨a, vs, rfl, h1, h2⟩ := bw_lst h
    obtain ⟨bs, h3, rfl⟩ := Option.map_eq_some_iff.mp e
    exact ⟨a, bs, rfl, SqL.of (by rw [h1, bls_v h2 h3]), q _ _ (.refl _ _) A.ok (.bl _)⟩
theorem sum_ok : Ca F (rSum F.K) sumD := fun A b e Q q => by
  rename_i dl z
  match dl, b, e with
  | [.lst xs], .cons h .nil, e =>
    obtain ⟨a, vs, rfl, h1, h2⟩ := bw_lst h
    obtain ⟨bs, h3, rfl⟩ := Option.map_eq_some_iff.mp e
    exact ⟨a, bs, rfl, SqL.of (by rw [h1, ints_v h2 h3]), q _ _ (.refl _ _) A.ok (.int _)⟩
theorem allR (hc : X.calm = true) (hK : F.K = X.K) : CallR X (.builtin "all") (rAll F.K) := by rw [hK]; exact cr_all hc
theorem sumR (hc : X.calm = true) (hK : F.K = X.K) : CallR X (.builtin "sum") (rSum F.K) := by rw [hK]; exact cr_sum hc
theorem dd_all (hg : Gl X "all") (hm : X.mg "all" = none) (ha : PE X e (lB F d)) (hc : X.calm = true := by rfl) (he : starEach [e] X.env = (false, eval e X.env) :: starEach [] X.env := by rfl) (hpl : (backTo pos (starEach [] X.env)).any (·.1) = false := by rfl) (hK : F.K = X.K := by rfl) :
    PE X (.Call (.Name "all" p) [e] [] pos) (lC F (dCa allD (aCons d aNil))) := PE.mono (pe_callB (allR hc hK) hg hm (by decide +kernel) (db_cons ha db_nil he) (by decide) (by decide) he hpl) (lca all_ok)
theorem dd_sum (hg : Gl X "sum") (hm : X.mg "sum" = none) (ha : PE X e (lB F d)) (hc : X.calm = true := by rfl) (he : starEach [e] X.env = (false, eval e X.env) :: starEach [] X.env := by rfl) (hpl : (backTo pos (starEach [] X.env)).any (·.1) = false := by rfl) (hK : F.K = X.K := by rfl) :
    PE X (.Call (.Name "sum" p) [e] [] pos) (lC F (dCa sumD (aCons d aNil))) := PE.mono (pe_callB (sumR hc hK) hg hm (by decide +kernel) (db_cons ha db_nil he) (by decide) (by decide) he hpl) (lca sum_ok)
def min2D : List D → Option D
  | [.int i, .int j] => some (.int (if j < i then j else i))
  | _ => none
theorem min2_ok : Ca F (fun xs H Q => ∃ i j, xs = [.int i, .int j] ∧ Q (.int (if j < i then j else i)) H) min2D := fun A b e Q q => by
  rename_i dl z
  match dl, b, e with
  | [.int i, .int j], .cons h (.cons h' .nil), e =>
    cases e
    rw [bw_int h, bw_int h']
    exact ⟨i, j, rfl, q _ _ (.refl _ _) A.ok (.int _)⟩
theorem dd_min2 (hg : Gl X "min") (hm : X.mg "min" = none) (ha : PE X a (lB F da)) (hb : PE X b (lB F db)) (hc : X.calm = true := by rfl) (he : starEach [a, b] X.env = (false, eval a X.env) :: starEach [b] X.env := by rfl) (he2 : starEach [b] X.env = (false, eval b X.env) :: starEach [] X.env := by rfl) (hpl : (backTo pos (starEach [b] X.env)).any (·.1) = false := by rfl) :
    PE X (.Call (.Name "min" p) [a, b] [] pos) (lC F (dCa min2D (aCons da (aCons db aNil)))) := PE.mono (pe_callB (call_min2 hc) hg hm (by decide +kernel) (db_cons ha (db_cons hb db_nil he2) he) (by decide) (by decide) he hpl) (lca min2_ok)
def keyV : Key → D
  | .inl i => .int i
  | .inr x => .str x
theorem dd_key {K : PySem.W.Frag} {N : Addr → Prop} {W : Wd} {H : Hp} : ∀ k : Key, Dd K N W H (kV k) (keyV k)
  | .inl i => .int i
  | .inr x => .str x
theorem dd_keys {K : PySem.W.Frag} {N : Addr → Prop} {W : Wd} {H : Hp} : ∀ {kvs : List (Key × V)} {kds : List (Key × D)}, kvs.map (·.1) = kds.map (·.1) → DdAll K N W H (kvs.map fun kv => kV kv.1) (kds.map fun kd => keyV kd.1)
  | [], [], _ => .nil
  | [], _ :: _, e => by cases e
  | _ :: _, [], e => by cases e
  | (k1, v) :: kvs, (k2, d) :: kds, e => by
    have e1 : k1 = k2 := (List.cons.inj e).1
    subst e1
    exact .cons (dd_key k1) (dd_keys (List.cons.inj e).2)
def listD : List D → Option D
  | [.lst xs] => some (.lst xs)
  | [.tup xs] => some (.lst xs)
  | [.ktp xs] => some (.lst xs)
  | [.dic kds] => some (.lst (kds.map fun kd => keyV kd.1))
  | _ => none
theorem list_okN : CaN F (fun xs H Q => (∃ p ys, xs = [.ref p] ∧ (SqL F.K H p ys ∨ SqT F.K H p ys) ∧ ∀ l, H l = none → Q (.ref l) (upd H l (.lst ys))) ∨ (∃ (a : Addr) (kvs : List (Key × V)), xs = [.ref a] ∧ Rd H a (.dK kvs) ∧ ∀ p, H p = none → Q (.ref p) (upd H p (.lst (kvs.map fun kv => kV kv.1))))) listD := fun A b e Q q => by
  rename_i dl z
  match dl, b, e with
  | [.lst xs], .cons h .nil, e =>
    obtain ⟨a, vs, rfl, h1, h2⟩ := bw_lst h
    cases e
    exact .inl ⟨_, _, rfl, .inl (SqL.of h1), fun t ht => q _ _ (.new ht) (ok_new A.ok ht) ht (new_lstN A ht h2)⟩
  | [.tup xs], .cons h .nil, e =>
    obtain ⟨a, vs, rfl, h1, h2⟩ := bw_tup h
    cases e
    exact .inl ⟨_, _, rfl, .inr (SqT.of h1), fun t ht => q _ _ (.new ht) (ok_new A.ok ht) ht (new_lstN A ht h2)⟩
  | [.ktp xs], .cons h .nil, e =>
    obtain ⟨a, vs, rfl, h1, h2⟩ := bw_items h rfl
    cases e
    exact .inl ⟨_, vs, rfl, h1, fun t ht => q _ _ (.new ht) (ok_new A.ok ht) ht (new_lstN A ht h2)⟩
  | [.dic kds], .cons h .nil, e =>
    obtain ⟨a, kvs, rfl, h1, h2, h3⟩ := bw_dic h
    cases e
    exact .inr ⟨_, _, rfl, h1, fun t ht => q _ _ (.new ht) (ok_new A.ok ht) ht (new_lstN A ht (dd_keys h2))⟩
theorem listR (hc : X.calm = true) (hK : F.K = X.K) : CallR X (.type "list") (fun xs H Q => (∃ p ys, xs = [.ref p] ∧ (SqL F.K H p ys ∨ SqT F.K H p ys) ∧ ∀ l, H l = none → Q (.ref l) (upd H l (.lst ys))) ∨ (∃ (a : Addr) (kvs : List (Key × V)), xs = [.ref a] ∧ Rd H a (.dK kvs) ∧ ∀ p, H p = none → Q (.ref p) (upd H p (.lst (kvs.map fun kv => kV kv.1))))) := by
  rw [hK]
  exact CallR.or call_list_of (call_listD hc)
theorem dn_list (hg : Gl X "list") (hm : X.mg "list" = none) (ha : PE X e (lB F d)) (hc : X.calm = true := by rfl) (he : starEach [e] X.env = (false, eval e X.env) :: starEach [] X.env := by rfl) (hpl : (backTo pos (starEach [] X.env)).any (·.1) = false := by rfl) (hK : F.K = X.K := by rfl) :
    PE X (.Call (.Name "list" p) [e] [] pos) (lN F (dCa listD (aCons d aNil))) := PE.mono (pe_callTy (listR hc hK) hg hm (by decide +kernel) (db_cons ha db_nil he) (by decide) (by decide) he hpl) (lcaN list_okN)
def tupleD : List D → Option D
  | [.lst xs] => some (.tup xs)
  | _ => none
theorem tuple_okN : CaN F (fun xs H Q => ∃ p ys, xs = [.ref p] ∧ ((SqL F.K H p ys ∧ ∀ l, H l = none → Q (.ref l) (upd H l (.tup ys))) ∨ (SqT F.K H p ys ∧ Q (.ref p) H))) tupleD := fun A b e Q q => by
  rename_i dl z
  match dl, b, e with
  | [.lst xs], .cons h .nil, e =>
    obtain ⟨a, vs, rfl, h1, h2⟩ := bw_lst h
    cases e
    exact ⟨_, _, rfl, .inl ⟨SqL.of h1, fun t ht => q _ _ (.new ht) (ok_new A.ok ht) ht (new_tupN A ht h2)⟩⟩
theorem tupleR (hK : F.K = X.K) : CallR X (.type "tuple") (fun xs H Q => ∃ p ys, xs = [.ref p] ∧ ((SqL F.K H p ys ∧ ∀ l, H l = none → Q (.ref l) (upd H l (.tup ys))) ∨ (SqT F.K H p ys ∧ Q (.ref p) H))) := by
  rw [hK]
  exact call_tuple_of
theorem dn_tuple (hg : Gl X "tuple") (hm : X.mg "tuple" = none) (ha : PE X e (lB F d)) (he : starEach [e] X.env = (false, eval e X.env) :: starEach [] X.env := by rfl) (hpl : (backTo pos (starEach [] X.env)).any (·.1) = false := by rfl) (hK : F.K = X.K := by rfl) :
    PE X (.Call (.Name "tuple" p) [e] [] pos) (lN F (dCa tupleD (aCons d aNil))) := PE.mono (pe_callTy (tupleR hK) hg hm (by decide +kernel) (db_cons ha db_nil he) (by decide) (by decide) he hpl) (lcaN tuple_okN)
end
end DL
namespace DL
open PySem PySem.Spec PyProof.Rows L2 RK
def tyD : D → Option String
  | .non => some "NoneType" | .bl _ => some "bool" | .int _ => some "int" | .str _ => some "str" | .lst _ => some "list" | .tup _ => some "tuple" | .ktp _ => some "tuple" | .dic _ => some "dict" | _ => none
def isD (T : String) (x : D) : Option Bool := (tyD x).bind fun t => kitB t T
def isAnyD (x : D) : List String → Option Bool
  | [] => some false
  | T :: Ts => (isD T x).bind fun b => if b = true then some true else isAnyD x Ts
section
variable {X : Cx} {F : Fx} {e a b c : Expr} {es : List Expr} {d da db dc : TDE} {ds : TDA} {pos p : Pos}
theorem ty_bw {L : List Addr} {H : Hp} {v : V} {x : D} {t : String} (h : Bw F L H v x) (e : tyD x = some t) : TyX F.K H v (.type t) := by
  cases x with
  | non => rw [bw_non h]; cases e; exact .base .non
  | bl _ => rw [bw_bl h]; cases e; exact .base (.bl _)
  | int _ => rw [bw_int h]; cases e; exact .base (.int _)
  | str _ => rw [bw_str h]; cases e; exact .base (.str _)
  | lst _ => obtain ⟨a, vs, rfl, h1, _⟩ := bw_lst h; cases e; exact .base (.lst h1)
  | tup _ => obtain ⟨a, vs, rfl, h1, _⟩ := bw_tup h; cases e; exact .base (.tup h1)
  | ktp _ =>
    cases e
    rcases h with h | ⟨e, h1, h2, h3⟩
    · cases h with | ktp h1 h2 h3 h4 h5 h6 => exact .kTuple h1 h2
    · cases e <;> cases h3
  | dic _ =>
    obtain ⟨a, vs, rfl, h1, _⟩ := bw_dic h
    cases e
    rcases h1 with h1 | ⟨o, h1⟩
    · exact .base (.dK h1)
    · exact .fDict h1
  | _ => cases e
def dIs (T : String) (d : TDE) : TDE := fun env P => d env fun x => ob (isD T x) fun b => P (.bl b)
def dIsA (Ts : List String) (d : TDE) : TDE := fun env P => d env fun x => ob (isAnyD x Ts) fun b => P (.bl b)
theorem isiR (hK : F.K = X.K) : CallR X (.builtin "isinstance") (rIsi F.K) := by rw [hK]; exact call_isi
theorem isiTR (hK : F.K = X.K) : CallR X (.builtin "isinstance") (rIsiT F.K) := by rw [hK]; exact call_isiT
theorem dd_isi {T : String} (hg : Gl X "isinstance") (hm : X.mg "isinstance" = none) (ha : PE X a (lB F d)) (hb : PE X b (tC (.ty T))) (he : starEach [a, b] X.env = (false, eval a X.env) :: starEach [b] X.env := by rfl) (he2 : starEach [b] X.env = (false, eval b X.env) :: starEach [] X.env := by rfl) (hpl : (backTo pos (starEach [b] X.env)).any (·.1) = false := by rfl) (hK : F.K = X.K := by rfl) :
    PE X (.Call (.Name "isinstance" p) [a, b] [] pos) (lC F (dIs T d)) := PE.mono (pe_callB (isiR hK) hg hm (by decide +kernel) (pa_cons ha (pa_cons hb pa_nil he2) he) (by decide) (by decide) he hpl) fun σ H Q ⟨env, L, P, A, pp, q⟩ =>
  ⟨env, L, _, A, pp, fun x v H1 px k1 o1 b1 => by
    obtain ⟨z, e, pz⟩ := ob_elim px
    obtain ⟨t, h1, h2⟩ := Option.bind_eq_some_iff.mp e
    exact ⟨v, .ty T, _, _, z, rfl, .ty T, ty_bw b1 h1, kit_ty h2, q _ _ H1 pz k1 o1 (.bl _)⟩⟩
theorem isAny_kit {K : PySem.W.Frag} {x : D} {t : String} (ht : tyD x = some t) : ∀ {Ts : List String} {z : Bool}, isAnyD x Ts = some z → PySem.W.kitAny K (.type t) (Ts.map Value.type) = some z
  | [], z, e => by cases e; exact kitAny_nil
  | T :: Ts, z, e => by
    obtain ⟨b, h1, h2⟩ := Option.bind_eq_some_iff.mp e
    obtain ⟨t', h3, h4⟩ := Option.bind_eq_some_iff.mp h1
    rw [ht] at h3
    cases h3
    cases b with
    | true => cases h2; exact kitAny_cons (kit_ty h4) (fun e => by cases e) (fun _ => rfl)
    | false =>
      rw [if_neg Bool.false_ne_true] at h2
      exact kitAny_cons (kit_ty h4) (fun _ => isAny_kit ht h2) (fun e => by cases e)
theorem dd_isiT {T1 T2 : String} {b1 b2 : Expr} {tp : Pos} {x1} (hg : Gl X "isinstance") (hm : X.mg "isinstance" = none) (ha : PE X a (lB F d)) (h1 : PE X b1 (tC (.ty T1))) (h2 : PE X b2 (tC (.ty T2)))
    (s1 : starEach [b1, b2] X.env = (false, eval b1 X.env) :: starEach [b2] X.env := by rfl) (s2 : starEach [b2] X.env = (false, eval b2 X.env) :: starEach [] X.env := by rfl)
    (he : starEach [a, .Tuple [b1, b2] x1 tp] X.env = (false, eval a X.env) :: starEach [.Tuple [b1, b2] x1 tp] X.env := by rfl) (he2 : starEach [.Tuple [b1, b2] x1 tp] X.env = (false, eval (.Tuple [b1, b2] x1 tp) X.env) :: starEach [] X.env := by rfl)
    (hpl : (backTo pos (starEach [.Tuple [b1, b2] x1 tp] X.env)).any (·.1) = false := by rfl) (hK : F.K = X.K := by rfl) :
    PE X (.Call (.Name "isinstance" p) [a, .Tuple [b1, b2] x1 tp] [] pos) (lC F (dIsA [T1, T2] d)) := PE.mono (pe_callB (isiTR hK) hg hm (by decide +kernel) (pa_cons ha (pa_cons (pe_tup (pa_cons h1 (pa_cons h2 pa_nil s2) s1)) pa_nil he2) he) (by decide) (by decide) he hpl) fun σ H Q ⟨env, L, P, A, pp, q⟩ =>
  ⟨env, L, _, A, pp, fun x v H1 px k1 o1 bb => ⟨(by show 2 ≤ sizeLine; decide), fun t ht => by
    obtain ⟨z, e, pz⟩ := ob_elim px
    have A1 := A.step k1 o1
    have b2 : Bw F L (upd H1 t (.tup [.ty T1, .ty T2])) v x := bb.step A1 (.new ht)
    obtain ⟨tt, htt⟩ : ∃ tt, tyD x = some tt := by
      cases hx : tyD x with
      | some tt => exact ⟨tt, rfl⟩
      | none =>
        unfold isAnyD isD at e
        rw [hx] at e
        cases e
    exact ⟨v, t, _, _, _, z, rfl, upd_same, .cons (.ty T1) (.cons (.ty T2) .nil), ty_bw b2 htt, isAny_kit htt e, q _ _ _ pz (k1.trans (.new ht)) (ok_new o1 ht) (.bl _)⟩⟩⟩
def SortS (xs ys : List Str) : Prop := ys.Perm xs ∧ sortedS ys = true
def SortI (xs ys : List Int) : Prop := ys.Perm xs ∧ ys.Pairwise (· ≤ ·)
def txtKeys : List (Key × D) → Option (List Str)
  | [] => some []
  | (.inr x, _) :: r => (txtKeys r).map fun xs => x :: xs
  | _ => none
def dSort (d : TDE) : TDE := fun env P => d env fun x => match x with
  | .lst xs => (∃ zs, strsD xs = some zs ∧ zs.length < 64 ∧ ∀ ys, SortS zs ys → P (.lst (ys.map D.str))) ∨ (∃ zs, intsD xs = some zs ∧ zs.length < 64 ∧ ∀ ys, SortI zs ys → P (.lst (ys.map D.int)))
  | .dic kds => ∃ zs, txtKeys kds = some zs ∧ zs.length < 64 ∧ ∀ ys, SortS zs ys → P (.lst (ys.map D.str))
  | _ => False
def indexOf (xs : List D) (y : D) : Option Nat := xs.findIdx? fun z => eqF z y
def dIndex (dx dy : TDE) : TDE := fun env P => dx env fun x => match x with
  | .lst xs => dy env fun y => xs.all D.leaf = true ∧ y.leaf = true ∧ ob (indexOf xs y) fun j => P (.int (j : Nat))
  | _ => False
end
end DL
namespace DL
open PySem PySem.Spec PyProof.Rows L2 RK
abbrev DSp := List D → (D → Prop) → Prop
structure Nw (K : PySem.W.Frag) (W : Wd) (N0 : Addr → Prop) (H : Hp) (fr : Fr) (H' : Hp) (v : V) (x : D) : Prop where
  n : fr = .b true → ∃ a, v = .ref a ∧ H a = none ∧ NewV ⟨K, W, N0, H, .b true⟩ [] H' a x
  c : ∀ j, fr = .ch j → Ch j H H' v x
  p : fr = .pr → Dd K (starN N0 H) W H' v x
def lSp (K : PySem.W.Frag) (fr : Fr) (sp : DSp) : Sp := fun vs H Q _ => ∃ (W : Wd) (N0 : Addr → Prop) (ds : List D) (P : D → Prop), (∀ a, N0 a → ∃ o : HoN, H a = some o.1) ∧ (∀ a, W.own a → N0 a) ∧ W.ok H ∧ DdAll K N0 W H vs ds ∧ sp ds P ∧
  ∀ x v H', P x → KeepW W H H' → W.ok H' → Dd K N0 W H' v x → Nw K W N0 H fr H' v x → Q v H'
section
variable {X : Cx} {F : Fx} {e a b c : Expr} {es : List Expr} {d da db dc : TDE} {ds dk : TDA} {pos p : Pos}
def dCall (sp : DSp) (ds : TDA) : TDE := fun env P => ds env fun xs => sp xs P
theorem lcall {fr : Fr} {sp : DSp} {E : XK} {K : PySem.W.Frag} (hK : F.K = K) : ∀ σ H Q, lC F (dCall sp ds) σ H Q → tCall (lSp K fr sp) [] E (lA F ds) σ H Q := fun σ H Q ⟨env, L, P, A, pp, q⟩ => by
  subst hK
  exact ⟨env, L, _, A, pp, fun xs vs H1 px k1 o1 d1 => ⟨F.W, F.N L, xs, P, fun a h => (A.step k1 o1).alN h, fun a h => .inl (A.wn a h), o1, by rw [List.append_nil]; exact d1, px, fun x v H2 p2 k2 o2 d2 _ => q x v H2 p2 (k1.trans k2) o2 d2⟩⟩
theorem new_of {K : PySem.W.Frag} {W : Wd} {N0 : Addr → Prop} {H H' : Hp} {fr : Fr} {L : List Addr} {a : Addr} {x : D} {F : Fx} (e1 : F.K = K) (e2 : F.W = W) (e3 : F.N L = N0) (h : NewV ⟨K, W, N0, H, .b true⟩ [] H' a x) : NewV F L H' a x := by
  subst e1 e2
  have sub : ∀ y, F.N (a :: L) y → Fx.N ⟨F.K, F.W, N0, H, .b true⟩ [a] y := fun y hy => by
    rcases hy with hy | hy
    · left
      show N0 y
      rw [← e3]
      exact .inl hy
    · rcases List.mem_cons.mp hy with hy | hy
      · exact .inr (by rw [hy]; exact List.mem_cons_self)
      · left
        show N0 y
        rw [← e3]
        exact .inr hy
  have key : ∀ {vs : List V} {ds : List D}, DdAll F.K (Fx.N ⟨F.K, F.W, N0, H, .b true⟩ [a]) F.W H' vs ds → DdAll F.K (F.N (a :: L)) F.W H' vs ds := fun h => h.keep (fun _ _ _ z => z) sub
  cases x with
  | tr G ds => obtain ⟨vs, h1, h2⟩ := h; exact ⟨vs, h1, h2.pres fun x o q e => ⟨fun z => q (sub x z), e⟩⟩
  | lst ds => obtain ⟨vs, h1, h2⟩ := h; exact ⟨vs, h1, key h2⟩
  | tup ds => obtain ⟨vs, h1, h2⟩ := h; exact ⟨vs, h1, key h2⟩
  | dic ds => obtain ⟨vs, h1, h3, h2⟩ := h; exact ⟨vs, h1, h3, key h2⟩
  | dct ds => obtain ⟨vs, h1, h3, h2⟩ := h; exact ⟨vs, h1, h3, key h2⟩
  | _ => exact h
theorem lcallN {sp : DSp} {E : XK} {K : PySem.W.Frag} (hK : F.K = K) : ∀ σ H Q, lN F (dCall sp ds) σ H Q → tCall (lSp K (.b true) sp) [] E (lA F ds) σ H Q := fun σ H Q ⟨env, L, P, A, pp, q⟩ => by
  subst hK
  refine ⟨env, L, _, A, pp, fun xs vs H1 px k1 o1 d1 => ⟨F.W, F.N L, xs, P, fun a h => (A.step k1 o1).alN h, fun a h => .inl (A.wn a h), o1, by rw [List.append_nil]; exact d1, px, fun x v H2 p2 k2 o2 d2 nn => ?_⟩⟩
  obtain ⟨a, rfl, h1, h2⟩ := nn.n rfl
  exact q x a H2 p2 (k1.trans k2) o2 (free_of k1 o1 h1) (new_of (fr := .b true) rfl rfl rfl h2)
variable {CX : CXT} {k : Nat} {f : Addr} {fd : FuncData} {ps ks : List Str} {sp : DSp} {E : XK} {x : Str} {fr : Fr} {K : PySem.W.Frag}
theorem dd_call (G : FnOk X.prog X.w X.K X.mg X.base CX k f fd ps (lSp K fr sp)) (hr : Room k X.A) (hg : Gl X x) (hm : X.mg x = some (.ref f)) (hk : PySem.W.keepIn X.K (.ref f) = true) (hb : Binds X.K fd ps []) (hx : Passes CX X E) (ha : PA X (e :: es) (lA F ds)) (hK : F.K = K := by rfl)
    (he : starEach (e :: es) X.env = (false, eval e X.env) :: starEach es X.env := by rfl) (hpl : (backTo pos (starEach es X.env)).any (·.1) = false := by rfl) (hdb : (x == ("__debug__" : Str)) = false := by decide) :
    PE X (.Call (.Name x p) (e :: es) [] pos) (lC F (dCall sp ds)) := PE.mono (pe_call G hr hg hm hk hb .nil hx ha hdb he hpl) (lcall hK)
theorem dn_call (G : FnOk X.prog X.w X.K X.mg X.base CX k f fd ps (lSp K (.b true) sp)) (hr : Room k X.A) (hg : Gl X x) (hm : X.mg x = some (.ref f)) (hk : PySem.W.keepIn X.K (.ref f) = true) (hb : Binds X.K fd ps []) (hx : Passes CX X E) (ha : PA X (e :: es) (lA F ds)) (hK : F.K = K := by rfl)
    (he : starEach (e :: es) X.env = (false, eval e X.env) :: starEach es X.env := by rfl) (hpl : (backTo pos (starEach es X.env)).any (·.1) = false := by rfl) (hdb : (x == ("__debug__" : Str)) = false := by decide) :
    PE X (.Call (.Name x p) (e :: es) [] pos) (lN F (dCall sp ds)) := PE.mono (pe_call G hr hg hm hk hb .nil hx ha hdb he hpl) (lcallN hK)
end
structure DEnds where
  nx : De → Prop
  rt : D → Prop
  bk : De → Prop := fun _ => False
  ct : De → Prop := fun _ => False
abbrev TDS := DEnds → De → Prop
def Pres (F : Fx) (L : List Addr) (H : Hp) (L' : List Addr) (H' : Hp) : Prop := ∀ a o, ¬ F.N L a → H a = some o → ¬ F.N L' a ∧ H' a = some o
theorem Pres.refl (F : Fx) (L : List Addr) (H : Hp) : Pres F L H L H := fun _ _ n h => ⟨n, h⟩
theorem Pres.trans {F : Fx} {L L1 L2 : List Addr} {H H1 H2 : Hp} (a : Pres F L H L1 H1) (b : Pres F L1 H1 L2 H2) : Pres F L H L2 H2 := fun x o n h => b x o (a x o n h).1 (a x o n h).2
theorem KeepW.pres {F : Fx} {env : De} {σ : L2.St} {L : List Addr} {H H' : Hp} (A : Abs F env σ L H) (k : KeepW F.W H H') : Pres F L H L H' := fun x o n h => ⟨n, k x o (nw_of A n) h⟩
structure RetOk (F : Fx) (H' : Hp) (v : V) (x : D) : Prop where
  kp : KeepW F.W F.H0 H'
  ok : F.W.ok H'
  dd : Dd F.K F.N0 F.W H' v x
  nw : F.fr = .b true → ∃ a, v = .ref a ∧ F.H0 a = none ∧ NewV F [] H' a x
  cj : ∀ j, F.fr = .ch j → Ch j F.H0 H' v x
  oj : ∀ R, F.fr = .ob R → R H'
  pj : F.fr = .pr → Dd F.K (starN F.N0 F.H0) F.W H' v x
def lS (F : Fx) (d : TDS) : TS := fun E σ H => ∃ env L P, Abs F env σ L H ∧ d P env ∧ (∀ env' σ' L' H', P.nx env' → Abs F env' σ' L' H' → Pres F L H L' H' → E.nx σ' H') ∧ (∀ x v H', P.rt x → RetOk F H' v x → E.rt v H') ∧
  (∀ env' σ' L' H', P.bk env' → Abs F env' σ' L' H' → Pres F L H L' H' → E.bk σ' H') ∧ (∀ env' σ' L' H', P.ct env' → Abs F env' σ' L' H' → Pres F L H L' H' → E.ct σ' H')
section
variable {X : Cx} {F : Fx} {e a b c : Expr} {es : List Expr} {d da db dc : TDE} {ds : TDA} {pos p : Pos} {st : Stmt} {rest sa sb : List Stmt} {s1 s2 : TDS} {tA : TDT}
def sNil : TDS := fun P env => P.nx env
def sSeq (s1 s2 : TDS) : TDS := fun P env => s1 { P with nx := s2 P } env
theorem ss_nil : PSs X [] (lS F sNil) := PSs.mono pss_nil fun E σ H ⟨env, L, P, A, pp, hn, _⟩ => hn env σ L H pp A (.refl _ _ _)
theorem ss_cons (h1 : PS X st (lS F s1)) (h2 : PSs X rest (lS F s2)) : PSs X (st :: rest) (lS F (sSeq s1 s2)) := PSs.mono (pss_cons h1 h2) fun E σ H ⟨env, L, P, A, pp, hn, hr, hb, hc⟩ =>
  ⟨env, L, _, A, pp, fun env' σ' L' H' pn A' pr => ⟨env', L', P, A', pn, fun env2 σ2 L2 H2 p2 A2 pr2 => hn env2 σ2 L2 H2 p2 A2 (pr.trans pr2), hr, fun env2 σ2 L2 H2 p2 A2 pr2 => hb env2 σ2 L2 H2 p2 A2 (pr.trans pr2), fun env2 σ2 L2 H2 p2 A2 pr2 => hc env2 σ2 L2 H2 p2 A2 (pr.trans pr2)⟩, hr, hb, hc⟩
theorem ss_one (h1 : PS X st (lS F s1)) : PSs X [st] (lS F s1) := pss_one h1
def sNever : TDS := fun _ _ => False
def sBrk : TDS := fun P env => P.bk env
def sCont : TDS := fun P env => P.ct env
def sIf (t : TDT) (s1 s2 : TDS) : TDS := fun P env => t env fun x => if x = true then s1 P env else s2 P env
theorem ds_if (hc : PT X c (lT F tA)) (ha : PSs X sa (lS F s1)) (hb : PSs X sb (lS F s2)) : PS X (.If c sa sb pos) (lS F (sIf tA s1 s2)) := PS.mono (ps_if hc ha hb) fun E σ H ⟨env, L, P, A, pp, hn, hr, hb, hc⟩ =>
  ⟨env, L, _, A, pp, fun x H1 px k1 o1 => by
    have pr : Pres F L H L H1 := k1.pres A
    cases x with
    | true => exact iteT ⟨env, L, P, A.step k1 o1, px, fun env2 σ2 L2 H2 p2 A2 pr2 => hn env2 σ2 L2 H2 p2 A2 (pr.trans pr2), hr, fun env2 σ2 L2 H2 p2 A2 pr2 => hb env2 σ2 L2 H2 p2 A2 (pr.trans pr2), fun env2 σ2 L2 H2 p2 A2 pr2 => hc env2 σ2 L2 H2 p2 A2 (pr.trans pr2)⟩
    | false => exact iteF ⟨env, L, P, A.step k1 o1, px, fun env2 σ2 L2 H2 p2 A2 pr2 => hn env2 σ2 L2 H2 p2 A2 (pr.trans pr2), hr, fun env2 σ2 L2 H2 p2 A2 pr2 => hb env2 σ2 L2 H2 p2 A2 (pr.trans pr2), fun env2 σ2 L2 H2 p2 A2 pr2 => hc env2 σ2 L2 H2 p2 A2 (pr.trans pr2)⟩⟩
theorem n0_sub {L : List Addr} : ∀ x, F.N0 x → F.N L x := fun x h => .inl h
theorem ret_of {env : De} {σ : L2.St} {L : List Addr} {H H' : Hp} {v : V} {x : D} (A : Abs F env σ L H) (k : KeepW F.W H H') (o : F.W.ok H') (h : Dd F.K (F.N L) F.W H' v x) (nf : F.fr = .b false) : RetOk F H' v x :=
  ⟨A.kp.trans k, o, h.keep (fun _ _ _ z => z) n0_sub, fun z => (by rw [nf] at z; cases z), fun j z => (by rw [nf] at z; cases z), fun j z => (by rw [nf] at z; cases z), fun z => by rw [nf] at z; cases z⟩
def sRet (d : TDE) : TDS := fun P env => d env P.rt
theorem ds_ret (nf : F.fr = .b false) (he : PE X e (lC F d)) : PS X (.Return (some e) pos) (lS F (sRet d)) := PS.mono (ps_ret he) fun E σ H ⟨env, L, P, A, pp, hn, hr, _⟩ =>
  ⟨env, L, _, A, pp, fun x v H' px k o dd => hr x v H' px (ret_of A k o dd nf)⟩
theorem n0_new {L : List Addr} {a : Addr} : ∀ x, F.N [a] x → F.N (a :: L) x := fun x h => by
  rcases h with h | h
  · exact .inl h
  · rcases List.mem_cons.mp h with h | h
    · exact .inr (by rw [h]; exact List.mem_cons_self)
    · cases h
theorem NewV.small {L : List Addr} {H : Hp} {a : Addr} : ∀ {x : D}, NewV F L H a x → NewV F [] H a x
  | .lst ds, ⟨vs, h, g⟩ => ⟨vs, h, g.keep (fun _ _ _ z => z) n0_new⟩
  | .tup ds, ⟨vs, h, g⟩ => ⟨vs, h, g.keep (fun _ _ _ z => z) n0_new⟩
  | .dic ds, ⟨vs, h, e, g⟩ => ⟨vs, h, e, g.keep (fun _ _ _ z => z) n0_new⟩
  | .dct ds, ⟨vs, h, e, g⟩ => ⟨vs, h, e, g.keep (fun _ _ _ z => z) n0_new⟩
  | .tr G ds, ⟨vs, h, g⟩ => ⟨vs, h, g.pres fun x o q e => ⟨fun z => q (n0_new x z), e⟩⟩
theorem ds_retN (he : PE X e (lN F d)) (nf : ∀ j, F.fr ≠ .ch j := by intro j h; cases h) (no : ∀ R, F.fr ≠ .ob R := by intro j h; cases h) (np : F.fr ≠ .pr := by intro h; cases h) : PS X (.Return (some e) pos) (lS F (sRet d)) := PS.mono (ps_ret he) fun E σ H ⟨env, L, P, A, pp, hn, hr, _⟩ =>
  ⟨env, L, _, A, pp, fun x a H' px k o n nv => hr x _ H' px ⟨A.kp.trans k, o, (nv.dd (A.new n)).keep (fun _ _ _ z => z) n0_sub, fun _ => ⟨a, rfl, free_of A.kp A.ok n, nv.small⟩, fun j z => (nf j z).elim, fun j z => (no j z).elim, fun z => (np z).elim⟩⟩
def owD : En → Option D
  | .ow ds => some (.lst ds)
  | .od ds => some (.dic ds)
  | .ot ds => some (.dct ds)
  | .otr G ds => some (.tr G ds)
  | _ => none
def sRetO (i : Nat) : TDS := fun P env => ob (env[i]?.bind owD) P.rt
theorem ow_new {env : De} {σ : L2.St} {L : List Addr} {H : Hp} (A : Abs F env σ L H) {a : Addr} {e : En} {x : D} (h : EnOk F L H e (some (.ref a))) (hx : owD e = some x) : a ∈ L ∧ NewV F [] H a x := by
  have sub : ∀ y, F.N [a] y → a ∈ L → F.N L y := fun y hy ha => by
    rcases hy with hy | hy
    · exact .inl hy
    · rcases List.mem_cons.mp hy with hy | hy
      · rw [hy]; exact .inr ha
      · cases hy
  cases e with
  | ow ds =>
    cases hx
    obtain ⟨h1, vs, h2, h3⟩ := h
    exact ⟨h1, vs, h2, h3.keep (fun _ _ _ z => z) fun y hy => sub y hy h1⟩
  | od ds =>
    cases hx
    obtain ⟨h1, vs, h2, h4, h3⟩ := h
    exact ⟨h1, vs, h2, h4, h3.keep (fun _ _ _ z => z) fun y hy => sub y hy h1⟩
  | otr G ds =>
    cases hx
    obtain ⟨h1, vs, h2, h3⟩ := h
    exact ⟨h1, vs, h2, h3.pres fun x o q e => ⟨fun z => q (sub x z h1), e⟩⟩
  | ot ds =>
    cases hx
    obtain ⟨h1, vs, h2, h4, h3⟩ := h
    exact ⟨h1, vs, h2, h4, h3.keep (fun _ _ _ z => z) fun y hy => sub y hy h1⟩
  | _ => cases hx
theorem owD_ref {L : List Addr} {H : Hp} {e : En} {v : V} {x : D} (h : EnOk F L H e (some v)) (hx : owD e = some x) : ∃ a, v = .ref a := by
  cases e <;> try cases hx
  all_goals (cases v <;> first | exact h.elim | exact ⟨_, rfl⟩)
theorem ds_retO {i : Nat} (he : PE X e (tVar i)) (no : ∀ R, F.fr ≠ .ob R := by intro j h; cases h) (np : F.fr ≠ .pr := by intro h; cases h) : PS X (.Return (some e) pos) (lS F (sRetO i)) := PS.mono (ps_ret he) fun E σ H ⟨env, L, P, A, pp, hn, hr, _⟩ => by
  obtain ⟨x, hx, px⟩ := ob_elim pp
  obtain ⟨en, h1, h2⟩ := Option.bind_eq_some_iff.mp hx
  obtain ⟨v, h3, h4⟩ := abs_at A h1 (by rintro rfl; cases h2)
  obtain ⟨a, rfl⟩ := owD_ref h4 h2
  obtain ⟨h5, h6⟩ := ow_new A h4 h2
  have nw : ¬ F.N [] a := fun z => by
    rcases z with z | z
    · exact A.out h5 z
    · cases z
  exact ⟨_, h3, hr x _ H px ⟨A.kp, A.ok, (h6.dd nw).keep (fun _ _ _ z => z) n0_sub, fun _ => ⟨a, rfl, (A.fr a h5).1, h6⟩, fun j _ xs ys ex => (by subst ex; cases en <;> cases h2), fun j z => (no j z).elim, fun z => (np z).elim⟩⟩
def sRetE : TDS := fun P _ => P.rt .non
end
end DL
namespace DL
open PySem PySem.Spec PyProof.Rows L2 RK
section
variable {F : Fx} {env : De} {σ : L2.St} {L : List Addr} {H H' : Hp}
theorem Abs.setF (A : Abs F env σ L H) {v : V} {x : D} (h : Dd F.K (F.N L) F.W H v x) (i : Nat) : Abs F (env.set i (.fz x)) (σ.set i (some v)) L H := by
  refine ⟨A.ok, A.al, A.wn, A.kp, A.fr, by rw [List.length_set, List.length_set, A.ls], fun j l a ej el h1 h2 o1 o2 s1 s2 => ?_, A.so.set0 rfl rfl _, fun j e y h1 h2 => ?_⟩
  · by_cases hj : i = j
    · subst hj
      by_cases hi : i < env.length
      · rw [List.getElem?_set_self hi] at h1
        cases h1
        cases o1
      · rw [List.getElem?_eq_none (by rw [List.length_set]; omega)] at h1
        cases h1
    · by_cases hl : i = l
      · subst hl
        by_cases hi : i < env.length
        · rw [List.getElem?_set_self hi] at h2
          cases h2
          cases o2
        · rw [List.getElem?_eq_none (by rw [List.length_set]; omega)] at h2
          cases h2
      · rw [List.getElem?_set_ne hj] at h1 s1
        rw [List.getElem?_set_ne hl] at h2 s2
        exact A.sep j l a ej el h1 h2 o1 o2 s1 s2
  · by_cases hj : i = j
    · subst hj
      by_cases hi : i < env.length
      · rw [List.getElem?_set_self hi] at h1
        rw [List.getElem?_set_self (by rw [← A.ls]; exact hi)] at h2
        cases h1
        cases h2
        exact h
      · rw [List.getElem?_eq_none (by rw [List.length_set]; omega)] at h1
        cases h1
    · rw [List.getElem?_set_ne hj] at h1 h2
      exact A.en j e y h1 h2
theorem Abs.grow (A : Abs F env σ L H) {L' : List Addr} (k : KeepW F.W H H') (o : F.W.ok H') (pr : Pres F L H L' H') (sub : ∀ a ∈ L, a ∈ L') (new : ∀ a ∈ L', a ∈ L ∨ (H a = none ∧ ∃ o, H' a = some o ∧ Plo o)) : Abs F env σ L' H' := by
  have w : ∀ a ∈ L, ¬ F.W.own a := fun a h z => A.out h (A.wn a z)
  refine ⟨o, A.al, A.wn, A.kp.trans k, fun a h => ?_, A.ls, A.sep, A.so, fun i e x h1 h2 => ?_⟩
  · rcases new a h with h | ⟨h1, h2⟩
    · obtain ⟨h1, u, h2, pl⟩ := A.fr a h
      exact ⟨h1, u, k a u (w a h) h2, pl⟩
    · exact ⟨free_of A.kp A.ok h1, h2⟩
  · have q := A.en i e x h1 h2
    cases e with
    | no => exact trivial
    | fz d => cases x with
      | none => exact q.elim
      | some v => exact Dd.pres pr q
    | oo C a fs => cases x with
      | none => exact q.elim
      | some v => cases v with
        | ref b =>
          obtain ⟨q1, q2, q3, dx, vs, q4, q5⟩ := q
          have q2' := fun x hx => q2 x (List.mem_cons_of_mem _ hx)
          have q2a := q2 a List.mem_cons_self
          exact ⟨q1, fun x hx => sub x (q2 x hx), q3, dx, vs, k a _ (w a q2a) q4, q5.pres pr fun x hx o => k x o (w x (q2' x hx))⟩
        | _ => exact q.elim
    | fe e => cases x with
      | none => exact q.elim
      | some v => exact ⟨fun x hx => sub x (q.1 x hx), q.2.1, q.2.2.pres pr fun x hx o => k x o (w x (q.1 x hx))⟩
    | ow ds => cases x with
      | none => exact q.elim
      | some v => cases v with
        | ref a =>
          obtain ⟨q1, vs, q2, q3⟩ := q
          exact ⟨sub a q1, vs, k a _ (w a q1) q2, q3.pres pr⟩
        | _ => exact q.elim
    | od ds => cases x with
      | none => exact q.elim
      | some v => cases v with
        | ref a =>
          obtain ⟨q1, vs, q2, q4, q3⟩ := q
          exact ⟨sub a q1, vs, k a _ (w a q1) q2, q4, q3.pres pr⟩
        | _ => exact q.elim
    | ot ds => cases x with
      | none => exact q.elim
      | some v => cases v with
        | ref a =>
          obtain ⟨q1, vs, q2, q4, q3⟩ := q
          exact ⟨sub a q1, vs, k a _ (w a q1) q2, q4, q3.pres pr⟩
        | _ => exact q.elim
    | otr G ds => cases x with
      | none => exact q.elim
      | some v => cases v with
        | ref a =>
          obtain ⟨q1, vs, q2, q3⟩ := q
          exact ⟨sub a q1, vs, k a _ (w a q1) q2, q3.pres pr⟩
        | _ => exact q.elim
theorem pres_cons (A : Abs F env σ L H) (k : KeepW F.W H H') {a : Addr} (n : H a = none) : Pres F L H (a :: L) H' := fun x o q h => ⟨fun z => by
  rcases z with z | z
  · exact q (.inl z)
  · rcases List.mem_cons.mp z with z | z
    · rw [z, n] at h
      cases h
    · exact q (.inr z), k x o (nw_of A q) h⟩
def D.isTp : D → Bool
  | .tup _ => true
  | _ => false
theorem new_there {F : Fx} {L : List Addr} {H : Hp} {a : Addr} : ∀ {x : D}, x.isTp = false → NewV F L H a x → ∃ o, H a = some o ∧ Plo o
  | .lst ds, _, ⟨vs, h, _⟩ => ⟨_, h, True.intro⟩
  | .dic ds, _, ⟨vs, h, _⟩ => ⟨_, h, True.intro⟩
  | .dct ds, _, ⟨vs, h, _⟩ => ⟨_, h, True.intro⟩
  | .tr G ds, _, ⟨vs, h, _⟩ => ⟨_, h, ⟨_, _, _, rfl⟩⟩
theorem enOf_nt {x : D} {e : En} (h : (match x with | .lst xs => some (En.ow xs) | .dic xs => some (.od xs) | .dct xs => some (.ot xs) | .tr G xs => some (.otr G xs) | _ => none) = some e) : x.isTp = false := by cases x <;> first | rfl | cases h
def enOf : D → Option En
  | .lst xs => some (.ow xs)
  | .dic xs => some (.od xs)
  | .dct xs => some (.ot xs)
  | .tr G xs => some (.otr G xs)
  | _ => none
theorem en_new {a : Addr} : ∀ {x : D} {e : En}, NewV F L H a x → enOf x = some e → EnOk F (a :: L) H e (some (.ref a)) ∧ e.isOw = true
  | .lst xs, _, ⟨vs, h, g⟩, q => by cases q; exact ⟨⟨List.mem_cons_self, vs, h, g⟩, rfl⟩
  | .dic xs, _, ⟨vs, h, e, g⟩, q => by cases q; exact ⟨⟨List.mem_cons_self, vs, h, e, g⟩, rfl⟩
  | .dct xs, _, ⟨vs, h, e, g⟩, q => by cases q; exact ⟨⟨List.mem_cons_self, vs, h, e, g⟩, rfl⟩
  | .tr G xs, _, ⟨vs, h, g⟩, q => by cases q; exact ⟨⟨List.mem_cons_self, vs, h, g⟩, rfl⟩
theorem Abs.setO (A : Abs F env σ L H) (k : KeepW F.W H H') (o : F.W.ok H') {a : Addr} {x : D} {e : En} (n : H a = none) (h : NewV F L H' a x) (he : enOf x = some e) (i : Nat) : Abs F (env.set i e) (σ.set i (some (.ref a))) (a :: L) H' := by
  have pr := pres_cons A k n
  have B : Abs F env σ (a :: L) H' := A.grow k o pr (fun b hb => List.mem_cons_of_mem _ hb) fun b hb => by
    rcases List.mem_cons.mp hb with hb | hb
    · exact .inr ⟨hb ▸ n, hb ▸ new_there (enOf_nt he) h⟩
    · exact .inl hb
  obtain ⟨en, ow⟩ := en_new h he
  have no : ∀ (j : Nat) (ej : En), env[j]? = some ej → ej.isOw = true → σ[j]? = some (some (.ref a)) → False := fun j ej h1 h2 h3 => by
    have q := A.en j ej _ h1 h3
    have al : a ∈ L := by
      cases ej with
      | ow _ => exact q.1
      | od _ => exact q.1
      | ot _ => exact q.1
      | otr _ _ => exact q.1
      | no => cases h2
      | fz _ => cases h2
      | oo _ _ _ => cases h2
      | fe _ => cases h2
    obtain ⟨_, u, hu, _⟩ := A.fr a al
    rw [n] at hu
    cases hu
  refine ⟨B.ok, B.al, B.wn, B.kp, B.fr, by rw [List.length_set, List.length_set, A.ls], fun j l b ej el h1 h2 o1 o2 s1 s2 => ?_, A.so.setW A.ls (ad_ow ow) (loneO A n), fun j e' y h1 h2 => ?_⟩
  · by_cases hi : i < env.length
    · have hi2 : i < σ.length := by rw [← A.ls]; exact hi
      by_cases hj : i = j
      · by_cases hl : i = l
        · omega
        · subst hj
          rw [List.getElem?_set_self hi2] at s1
          cases s1
          rw [List.getElem?_set_ne hl] at h2 s2
          exact (no l el h2 o2 s2).elim
      · rw [List.getElem?_set_ne hj] at h1 s1
        by_cases hl : i = l
        · subst hl
          rw [List.getElem?_set_self hi2] at s2
          cases s2
          exact (no j ej h1 o1 s1).elim
        · rw [List.getElem?_set_ne hl] at h2 s2
          exact A.sep j l b ej el h1 h2 o1 o2 s1 s2
    · have e1 : env.set i e = env := List.set_eq_of_length_le (by omega)
      have e2 : σ.set i (some (V.ref a)) = σ := List.set_eq_of_length_le (by rw [← A.ls]; omega)
      rw [e1] at h1 h2
      rw [e2] at s1 s2
      exact A.sep j l b ej el h1 h2 o1 o2 s1 s2
  · by_cases hj : i = j
    · subst hj
      by_cases hi : i < env.length
      · rw [List.getElem?_set_self hi] at h1
        rw [List.getElem?_set_self (by rw [← A.ls]; exact hi)] at h2
        cases h1
        cases h2
        exact en
      · rw [List.getElem?_eq_none (by rw [List.length_set]; omega)] at h1
        cases h1
    · rw [List.getElem?_set_ne hj] at h1 h2
      exact B.en j e' y h1 h2
theorem Abs.write (A : Abs F env σ L H) {i : Nat} {a : Addr} {e e' : En} {o' : HO} (hi : env[i]? = some e) (ow : e.isOw = true) (hs : σ[i]? = some (some (.ref a))) (ha : a ∈ L) (ow' : e'.isOw = true)
    (new : EnOk F L (upd H a o') e' (some (.ref a))) (po : Plo o' := by exact True.intro) : Abs F (env.set i e') σ L (upd H a o') ∧ Pres F L H L (upd H a o') := by
  have na : ¬ F.N0 a := A.out ha
  have nw : ¬ F.W.own a := fun z => na (A.wn a z)
  have pr : Pres F L H L (upd H a o') := fun x u q h => ⟨q, by
    have ne : x ≠ a := fun z => q (.inr (by rw [z]; exact ha))
    rw [upd_ne ne]
    exact h⟩
  have hil : i < env.length := (List.getElem?_eq_some_iff.mp hi).1
  refine ⟨⟨?_, A.al, A.wn, fun x u q h => ?_, fun b hb => ?_, by rw [List.length_set, A.ls], fun j l b ej el h1 h2 o1 o2 s1 s2 => ?_, A.so.wr (ad_ow ow') hi ow, fun j e2 y h1 h2 => ?_⟩, pr⟩
  · exact Wd.st A.ok (n := noT_upd po.ntb) fun b u h q => by
      have ne : b ≠ a := fun z => by
        rcases q with q | q
        · exact nw (by rw [← z]; exact q)
        · obtain ⟨_, o, e, pl⟩ := A.fr a ha
          rw [z, e] at h
          exact q (Option.some.inj h ▸ pl)
      rw [upd_ne ne]
      exact h
  · have hx := A.kp x u q h
    have ne : x ≠ a := fun z => by
      rw [z, (A.fr a ha).1] at h
      cases h
    rw [upd_ne ne]
    exact hx
  · refine ⟨(A.fr b hb).1, ?_⟩
    by_cases e : b = a
    · subst e
      exact ⟨_, upd_same, po⟩
    · rw [upd_ne e]
      exact (A.fr b hb).2
  · have f1 : ∀ (j : Nat) (ej : En), (env.set i e')[j]? = some ej → ej.isOw = true → ∃ e0 : En, env[j]? = some e0 ∧ e0.isOw = true := fun j ej h o => by
      by_cases hj : i = j
      · subst hj
        exact ⟨e, hi, ow⟩
      · rw [List.getElem?_set_ne hj] at h
        exact ⟨ej, h, o⟩
    obtain ⟨e1, g1, g2⟩ := f1 j ej h1 o1
    obtain ⟨e3, g3, g4⟩ := f1 l el h2 o2
    exact A.sep j l b e1 e3 g1 g3 g2 g4 s1 s2
  · by_cases hj : i = j
    · subst hj
      rw [List.getElem?_set_self hil] at h1
      cases h1
      rw [hs] at h2
      cases h2
      exact new
    · rw [List.getElem?_set_ne hj] at h1
      refine EnOk.keep A (fun x u q h => (pr x u q h).2) (fun _ z => z) (fun b hb ob hbL => ⟨hbL, fun u hu => ?_⟩) (fun b hb hbL => ⟨hbL, fun u hu => by
        have : b ≠ a := fun z => (A.so j e2 b h1 hb).1 i e hi ow (by rw [z]; exact hs)
        rw [upd_ne this]
        exact hu⟩) (A.en j e2 y h1 h2)
      have : b ≠ a := fun z => hj (A.sep i j a e e2 hi h1 ow ob hs (by rw [h2, hb, z]))
      rw [upd_ne this]
      exact hu
end
end DL
namespace DL
open PySem PySem.Spec PyProof.Rows L2 RK
section
variable {F : Fx} {env : De} {σ : L2.St} {L : List Addr} {H H' : Hp}
def Lone (env : De) (σ : L2.St) (a : Addr) : Prop := (∀ (j : Nat) (ej : En), env[j]? = some ej → ej.isOw = true → σ[j]? = some (some (.ref a)) → False) ∧ ∀ (j : Nat) (ej : En), env[j]? = some ej → a ∉ ej.ad
theorem Abs.lone (A : Abs F env σ L H) {a : Addr} (n : H a = none) : Lone env σ a := ⟨fun j ej h1 h2 h3 => (by
  have q := A.en j ej _ h1 h3
  have al : a ∈ L := by
    cases ej with
    | ow _ => exact q.1
    | od _ => exact q.1
    | ot _ => exact q.1
    | otr _ _ => exact q.1
    | no => cases h2
    | fz _ => cases h2
    | oo _ _ _ => cases h2
    | fe _ => cases h2
  obtain ⟨_, u, hu, _⟩ := A.fr a al
  rw [n] at hu
  cases hu), loneO A n⟩
theorem Abs.setW (A : Abs F env σ L H) {a : Addr} {e : En} (no : Lone env σ a) (en : EnOk F L H e (some (.ref a))) (i : Nat) (h0 : e.ad = [] := by rfl) : Abs F (env.set i e) (σ.set i (some (.ref a))) L H := by
  refine ⟨A.ok, A.al, A.wn, A.kp, A.fr, by rw [List.length_set, List.length_set, A.ls], fun j l b ej el h1 h2 o1 o2 s1 s2 => ?_, A.so.setW A.ls h0 no.2, fun j e' y h1 h2 => ?_⟩
  · by_cases hi : i < env.length
    · have hi2 : i < σ.length := by rw [← A.ls]; exact hi
      by_cases hj : i = j
      · by_cases hl : i = l
        · omega
        · subst hj
          rw [List.getElem?_set_self hi2] at s1
          cases s1
          rw [List.getElem?_set_ne hl] at h2 s2
          exact (no.1 l el h2 o2 s2).elim
      · rw [List.getElem?_set_ne hj] at h1 s1
        by_cases hl : i = l
        · subst hl
          rw [List.getElem?_set_self hi2] at s2
          cases s2
          exact (no.1 j ej h1 o1 s1).elim
        · rw [List.getElem?_set_ne hl] at h2 s2
          exact A.sep j l b ej el h1 h2 o1 o2 s1 s2
    · have e1 : env.set i e = env := List.set_eq_of_length_le (by omega)
      have e2 : σ.set i (some (V.ref a)) = σ := List.set_eq_of_length_le (by rw [← A.ls]; omega)
      rw [e1] at h1 h2
      rw [e2] at s1 s2
      exact A.sep j l b ej el h1 h2 o1 o2 s1 s2
  · by_cases hj : i = j
    · subst hj
      by_cases hi : i < env.length
      · rw [List.getElem?_set_self hi] at h1
        rw [List.getElem?_set_self (by rw [← A.ls]; exact hi)] at h2
        cases h1
        cases h2
        exact en
      · rw [List.getElem?_eq_none (by rw [List.length_set]; omega)] at h1
        cases h1
    · rw [List.getElem?_set_ne hj] at h1 h2
      exact A.en j e' y h1 h2
theorem Lone.setF {a : Addr} (h : Lone env σ a) (i : Nat) (x : D) (v : V) (l : env.length = σ.length) : Lone (env.set i (.fz x)) (σ.set i (some v)) a := ⟨fun j ej h1 h2 h3 => (by
  by_cases hj : i = j
  · subst hj
    by_cases hi : i < env.length
    · rw [List.getElem?_set_self hi] at h1
      cases h1
      cases h2
    · rw [List.getElem?_eq_none (by rw [List.length_set]; omega)] at h1
      cases h1
  · rw [List.getElem?_set_ne hj] at h1 h3
    exact h.1 j ej h1 h2 h3), fun j ej hj => by
  rcases get_set hj with ⟨_, rfl, _⟩ | ⟨_, hj2⟩
  · exact fun z => by cases z
  · exact h.2 j ej hj2⟩
theorem Lone.setW {a b : Addr} (h : Lone env σ a) (i : Nat) (e : En) (n : b ≠ a) (l : env.length = σ.length) (h0 : e.ad = [] := by rfl) : Lone (env.set i e) (σ.set i (some (.ref b))) a := ⟨fun j ej h1 h2 h3 => (by
  by_cases hj : i = j
  · subst hj
    by_cases hi : i < env.length
    · rw [List.getElem?_set_self (by rw [← l]; exact hi)] at h3
      cases h3
      exact n rfl
    · rw [List.getElem?_eq_none (by rw [List.length_set]; omega)] at h1
      cases h1
  · rw [List.getElem?_set_ne hj] at h1 h3
    exact h.1 j ej h1 h2 h3), fun j ej hj => by
  rcases get_set hj with ⟨_, rfl, _⟩ | ⟨_, hj2⟩
  · rw [h0]; exact fun z => by cases z
  · exact h.2 j ej hj2⟩
theorem Abs.hold (A : Abs F env σ L H) (k : KeepW F.W H H') (o : F.W.ok H') {a : Addr} {x : D} (n : H a = none) (h : NewV F L H' a x) (nt : x.isTp = false := by rfl) : Abs F env σ (a :: L) H' :=
  A.grow k o (pres_cons A k n) (fun b hb => List.mem_cons_of_mem _ hb) fun b hb => by
    rcases List.mem_cons.mp hb with hb | hb
    · exact .inr ⟨hb ▸ n, hb ▸ new_there nt h⟩
    · exact .inl hb
theorem NewV.step {a : Addr} (A : Abs F env σ (a :: L) H) (k : KeepW F.W H H') : ∀ {x : D}, NewV F L H a x → NewV F L H' a x := fun {x} h => by
  have w : ¬ F.W.own a := fun z => A.out List.mem_cons_self (A.wn a z)
  cases x with
  | lst ds => obtain ⟨vs, h1, h2⟩ := h; exact ⟨vs, k a _ w h1, A.kda k h2⟩
  | tup ds => obtain ⟨vs, h1, h2⟩ := h; exact ⟨vs, k a _ w h1, A.kda k h2⟩
  | dic ds => obtain ⟨vs, h1, h3, h2⟩ := h; exact ⟨vs, k a _ w h1, h3, A.kda k h2⟩
  | dct ds => obtain ⟨vs, h1, h3, h2⟩ := h; exact ⟨vs, k a _ w h1, h3, A.kda k h2⟩
  | tr G ds => obtain ⟨vs, h1, h2⟩ := h; exact ⟨vs, k a _ w h1, h2.pres fun x o q e => ⟨q, k.n A x o q e⟩⟩
  | _ => exact h
end
def sSet (i : Nat) (d : TDE) : TDS := fun P env => d env fun x => P.nx (env.set i (.fz x))
def sSetO (i : Nat) (d : TDE) : TDS := fun P env => d env fun x => ob (enOf x) fun e => P.nx (env.set i e)
def sDrop (d : TDE) : TDS := fun P env => d env fun _ => P.nx env
section
variable {X : Cx} {F : Fx} {e a b c : Expr} {es : List Expr} {d da db dc : TDE} {ds : TDA} {pos p : Pos} {i j l : Nat}
theorem l_setF {t : TE} (h : ∀ σ H Q, lC F d σ H Q → t σ H Q) : ∀ E σ H, lS F (sSet i d) E σ H → tAsg t (gName i) E σ H := fun E σ H ⟨env, L, P, A, pp, hn, _⟩ =>
  h σ H _ ⟨env, L, _, A, pp, fun x v H1 px k o dd => hn _ _ L H1 px ((A.step k o).setF dd i) (k.pres A)⟩
theorem l_setO {t : TE} (h : ∀ σ H Q, lN F d σ H Q → t σ H Q) : ∀ E σ H, lS F (sSetO i d) E σ H → tAsg t (gName i) E σ H := fun E σ H ⟨env, L, P, A, pp, hn, _⟩ =>
  h σ H _ ⟨env, L, _, A, pp, fun x v H1 px k o n dd => by
    obtain ⟨en, he, pn⟩ := ob_elim px
    exact hn _ _ _ H1 pn (A.setO k o n dd he i) (pres_cons A k n)⟩
theorem ds_set {x : Str} {pos' : Pos} (hN : X.N.Nodup) (hi : X.N[i]? = some x) (hx : Loc X.env.scope x) (he : PE X e (lC F d)) (hs : swapsWith e (some (.Name x pos')) pos.line X.env = pure false := by rfl) (hf : X.fn x = true ∨ X.env.scope.names.lookup x = some .local := by first | exact .inl rfl | exact .inr rfl | assumption) :
    PS X (.Assign [.Name x pos'] e pos) (lS F (sSet i d)) := PS.mono (ps_set hN hi hx he hs hf) (l_setF fun _ _ _ h => h)
theorem ds_setO {x : Str} {pos' : Pos} (hN : X.N.Nodup) (hi : X.N[i]? = some x) (hx : Loc X.env.scope x) (he : PE X e (lN F d)) (hs : swapsWith e (some (.Name x pos')) pos.line X.env = pure false := by rfl) (hf : X.fn x = true ∨ X.env.scope.names.lookup x = some .local := by first | exact .inl rfl | exact .inr rfl | assumption) :
    PS X (.Assign [.Name x pos'] e pos) (lS F (sSetO i d)) := PS.mono (ps_set hN hi hx he hs hf) (l_setO fun _ _ _ h => h)
abbrev TDG := D → De → (De → Prop) → Prop
abbrev TDGs := List D → De → (De → Prop) → Prop
def lG (F : Fx) (S : List Nat) (g : TDG) : TG := fun v σ H Q => ∃ env L x P, Abs F env σ L H ∧ Dd F.K (F.N L) F.W H v x ∧ g x env P ∧ ∀ env' σ', P env' → Abs F env' σ' L H → (∀ vs : List Nat, (∀ i ∈ S, i ∈ vs) → wipe σ' vs = wipe σ vs) → (∀ a, Lone env σ a → Lone env' σ' a) → Q σ' H
def lGs (F : Fx) (S : List Nat) (g : TDGs) : TGs := fun vs σ H Q => ∃ env L xs P, Abs F env σ L H ∧ DdAll F.K (F.N L) F.W H vs xs ∧ g xs env P ∧ ∀ env' σ', P env' → Abs F env' σ' L H → (∀ us : List Nat, (∀ i ∈ S, i ∈ us) → wipe σ' us = wipe σ us) → (∀ a, Lone env σ a → Lone env' σ' a) → Q σ' H
theorem wipe_set {σ : L2.St} {i : Nat} {v : Option V} : ∀ {vs : List Nat}, i ∈ vs → wipe (σ.set i v) vs = wipe σ vs
  | [], h => by cases h
  | w :: vs, h => by
    unfold wipe
    by_cases hw : i ∈ vs
    · rw [wipe_set hw]
    · have e : i = w := by
        rcases List.mem_cons.mp h with h | h
        · exact h
        · exact (hw h).elim
      subst e
      have comm : ∀ us : List Nat, i ∉ us → wipe (σ.set i v) us = (wipe σ us).set i v := by
        intro us
        induction us with
        | nil => intro _; rfl
        | cons u us ih =>
          intro hu
          unfold wipe
          rw [ih (fun z => hu (List.mem_cons_of_mem _ z)), List.set_comm]
          exact fun z => hu (by rw [z]; exact List.mem_cons_self)
      rw [comm vs hw, List.set_set]
theorem PG.mono {tg : Expr} {t t' : TG} (h : PG X tg t) (m : ∀ v σ H Q, t' v σ H Q → t v σ H Q) : PG X tg t' := ⟨fun pins s σ H v u Q I r q => h.run pins s σ H v u Q I r (m v σ H Q q)⟩
theorem PGs.mono {tg : List Expr} {t t' : TGs} (h : PGs X tg t) (m : ∀ v σ H Q, t' v σ H Q → t v σ H Q) : PGs X tg t' := ⟨fun pins s σ H v u Q I r q => h.run pins s σ H v u Q I r (m v σ H Q q)⟩
def gNm (i : Nat) : TDG := fun x env P => P (env.set i (.fz x))
theorem dg_name {x : Str} (hN : X.N.Nodup) (hi : X.N[i]? = some x) (hx : Loc X.env.scope x) (hf : X.fn x = true ∨ X.env.scope.names.lookup x = some .local := by first | exact .inl rfl | exact .inr rfl | assumption) : PG X (.Name x pos) (lG F [i] (gNm i)) :=
  PG.mono (pg_name hN hi hx hf) fun v σ H Q ⟨env, L, x, P, A, dd, g, q⟩ => q _ _ g (A.setF dd i) (fun vs h => wipe_set (h i List.mem_cons_self)) fun a h => h.setF i _ _ A.ls
def gsNil : TDGs := fun xs env P => xs = [] ∧ P env
def gsCons (g : TDG) (gs : TDGs) : TDGs := fun xs env P => match xs with | x :: r => g x env fun env' => gs r env' P | [] => False
theorem dgs_nil : PGs X [] (lGs F [] gsNil) := PGs.mono pgs_nil fun vs σ H Q ⟨env, L, xs, P, A, dd, g, q⟩ => by
  obtain ⟨rfl, g⟩ := g
  cases dd
  exact ⟨rfl, q env σ g A (fun _ _ => rfl) fun _ h => h⟩
theorem l_gcons {S S' : List Nat} {g : TDG} {gs : TDGs} : ∀ vs σ H Q, lGs F (S ++ S') (gsCons g gs) vs σ H Q → gCons (lG F S g) (lGs F S' gs) vs σ H Q := fun vs σ H Q ⟨env, L, xs, P, A, dd, gg, q⟩ => by
    cases dd with
    | nil => exact gg.elim
    | cons h t =>
      refine ⟨_, _, rfl, env, L, _, _, A, h, gg, fun env1 σ1 p1 A1 w1 n1 => ⟨env1, L, _, _, A1, t, p1, fun env2 σ2 p2 A2 w2 n2 => q env2 σ2 p2 A2 (fun us hu => ?_) fun a h => n2 a (n1 a h)⟩⟩
      rw [w2 us (fun i hi => hu i (List.mem_append_right _ hi)), w1 us (fun i hi => hu i (List.mem_append_left _ hi))]
def gTp (n : Nat) (gs : TDGs) : TDG := fun x env P => match x with | .tup xs => xs.length = n ∧ gs xs env P | _ => False
theorem l_gtup {S : List Nat} {n : Nat} {gs : TDGs} {K : PySem.W.Frag} (hK : F.K = K) : ∀ v σ H Q, lG F S (gTp n gs) v σ H Q → gTup K n (lGs F S gs) v σ H Q := fun v σ H Q ⟨env, L, x, P, A, dd, g, q⟩ => by
  cases x with
  | tup xs =>
    obtain ⟨a, vs, rfl, h1, _, h2⟩ := dd_tupE dd
    exact ⟨a, vs, rfl, SqT.of h1, h2.len.trans g.1, env, L, xs, P, A, h2, g.2, q⟩
  | _ => exact g.elim
def sAsg (d : TDE) (g : TDG) : TDS := fun P env => d env fun x => g x env P.nx
theorem l_asg {S : List Nat} {g : TDG} : ∀ E σ H, lS F (sAsg d g) E σ H → tAsg (lC F d) (lG F S g) E σ H := fun E σ H ⟨env, L, P, A, pp, hn, _⟩ =>
  ⟨env, L, _, A, pp, fun x v H1 px k o dd => ⟨env, L, x, _, A.step k o, dd, px, fun env' σ' p' A' _ _ => hn env' σ' L H1 p' A' (k.pres A)⟩⟩
def kn : Bool → D → Option En
  | true, x => enOf x
  | false, x => some (.fz x)
def sPar (i j : Nat) (ki kj : Bool) (da db : TDE) : TDS := fun P env => da env fun x => db env fun y => ob (kn ki x) fun ex => ob (kn kj y) fun ey => P.nx ((env.set i ex).set j ey)
theorem l_par : ∀ E σ H, lS F (sPar i j false false da db) E σ H → tPar i j (tCons (lC F da) (tCons (lC F db) tNil)) E σ H := fun E σ H ⟨env, L, P, A, pp, hn, _⟩ =>
  ⟨env, L, _, A, pp, fun x v H1 px k1 o1 d1 => ⟨env, L, _, A.step k1 o1, px, fun y u H2 py k2 o2 d2 => ⟨v, u, rfl, hn _ _ L H2 py ((((A.step k1 o1).step k2 o2).setF ((A.step k1 o1).kd k2 d1) i).setF d2 j) ((k1.trans k2).pres A)⟩⟩⟩
end
end DL
namespace DL
open PySem PySem.Spec PyProof.Rows L2 RK
section
variable {X : Cx} {F : Fx} {e a b c o : Expr} {es : List Expr} {d da db dc : TDE} {ds : TDA} {pos p apos cpos : Pos} {i j l : Nat}
def owAt (env : De) (i : Nat) : Option (List D) := env[i]?.bind fun e => match e with | .ow xs => some xs | _ => none
theorem owAt_en {env : De} {i : Nat} {xs : List D} (h : owAt env i = some xs) : env[i]? = some (.ow xs) := by
  obtain ⟨e, h1, h2⟩ := Option.bind_eq_some_iff.mp h
  cases e <;> cases h2
  exact h1
theorem ow_get {env : De} {σ : L2.St} {L : List Addr} {H : Hp} (A : Abs F env σ L H) {xs : List D} (h : owAt env i = some xs) : ∃ a vs, σ[i]? = some (some (.ref a)) ∧ a ∈ L ∧ H a = some (.lst vs) ∧ DdAll F.K (F.N L) F.W H vs xs := by
  obtain ⟨v, h1, h2⟩ := abs_at A (owAt_en h) (by intro z; cases z)
  cases v with
  | ref a => obtain ⟨q1, vs, q2, q3⟩ := h2; exact ⟨a, vs, h1, q1, q2, q3⟩
  | _ => exact h2.elim
theorem ow_put {env : De} {σ : L2.St} {L : List Addr} {H : Hp} (A : Abs F env σ L H) {xs ys : List D} (h : owAt env i = some xs) {a : Addr} (hs : σ[i]? = some (some (.ref a))) (ha : a ∈ L) {us : List V} (hu : DdAll F.K (F.N L) F.W H us ys) :
    Abs F (env.set i (.ow ys)) σ L (upd H a (.lst us)) ∧ Pres F L H L (upd H a (.lst us)) := by
  refine A.write (owAt_en h) rfl hs ha rfl ⟨ha, us, upd_same, hu.keep (fun x u q h => ?_) fun _ z => z⟩
  have ne : x ≠ a := fun z => q (.inr (by rw [z]; exact ha))
  rw [upd_ne ne]
  exact h
def sApp (i : Nat) (d : TDE) : TDS := fun P env => ob (owAt env i) fun xs => d env fun x => xs.length < sizeLine ∧ P.nx (env.set i (.ow (xs ++ [x])))
theorem l_app {K : PySem.W.Frag} : ∀ E σ H, lS F (sApp i d) E σ H → tDrop (tBM K "list" rAppend (tVar i) (tCons (lC F d) tNil)) E σ H := fun E σ H ⟨env, L, P, A, pp, hn, _⟩ => by
  obtain ⟨xs, h, pp⟩ := ob_elim pp
  obtain ⟨a, vs, hs, ha, hv, hd⟩ := ow_get A h
  refine ⟨_, hs, .inl ⟨rfl, vs, SqL.of hv⟩, env, L, _, A, pp, fun x v H1 px k1 o1 d1 => ?_⟩
  have A1 := A.step k1 o1
  obtain ⟨a2, vs2, hs2, ha2, hv2, hd2⟩ := ow_get A1 h
  rw [hs] at hs2
  cases hs2
  obtain ⟨B, pr⟩ := ow_put A1 h hs ha2 (hd2.app (.cons d1 .nil))
  exact ⟨a, vs2, v, rfl, rfl, hv2, by rw [hd2.len]; exact px.1, hn _ _ _ _ px.2 B ((k1.pres A).trans pr)⟩
theorem ds_app (ho : PE X o (tVar i)) (he : PE X e (lC F d)) (hbase : attributeBase o "append" X.env (eval o X.env) = eval o X.env := by rfl)
    (hfew : ((backTo cpos (starEach [e] X.env)).all (fun x => !x.1) && (backToKw cpos (keywordEach [] X.env)).all (fun x => x.1.isSome) && decide (([e] : List Expr).length + ([] : List Keyword).length + (if ([] : List Keyword).isEmpty then 0 else 1) < 30)) = true := by rfl)
    (hline : (apos.endLine == cpos.line) = true := by rfl) (hs : starEach [e] X.env = (false, eval e X.env) :: starEach [] X.env := by rfl) (hplain : (backTo cpos (starEach [] X.env)).any (·.1) = false := by rfl)
    (hsw : swapsWith (.Call (.Attribute o "append" apos) [e] [] cpos) none pos.line X.env = pure false := by rfl) :
    PS X (.Expr (.Call (.Attribute o "append" apos) [e] [] cpos) pos) (lS F (sApp i d)) := PS.mono (ps_expr (pe_bm PySem.F.plainAttrs_list PySem.F.slot_list_append PySem.F.type_list_append mt_append ho (pa_cons he pa_nil hs) hbase hfew hline hs hplain) hsw) l_app
def sIns (i : Nat) (da db : TDE) : TDS := fun P env => ob (owAt env i) fun xs => da env fun y => db env fun x => match y with
  | .int n => xs.length < sizeLine ∧ 0 ≤ n ∧ n < 2 ^ 63 ∧ P.nx (env.set i (.ow (xs.take n.toNat ++ [x] ++ xs.drop n.toNat)))
  | _ => False
theorem ds_ins (ho : PE X o (tVar i)) (ha : PE X a (lC F da)) (hb : PE X b (lC F db)) (hbase : attributeBase o "insert" X.env (eval o X.env) = eval o X.env := by rfl)
    (hfew : ((backTo cpos (starEach [a, b] X.env)).all (fun x => !x.1) && (backToKw cpos (keywordEach [] X.env)).all (fun x => x.1.isSome) && decide (([a, b] : List Expr).length + ([] : List Keyword).length + (if ([] : List Keyword).isEmpty then 0 else 1) < 30)) = true := by rfl)
    (hline : (apos.endLine == cpos.line) = true := by rfl) (hs : starEach [a, b] X.env = (false, eval a X.env) :: starEach [b] X.env := by rfl) (hs2 : starEach [b] X.env = (false, eval b X.env) :: starEach [] X.env := by rfl) (hplain : (backTo cpos (starEach [b] X.env)).any (·.1) = false := by rfl)
    (hsw : swapsWith (.Call (.Attribute o "insert" apos) [a, b] [] cpos) none pos.line X.env = pure false := by rfl) :
    PS X (.Expr (.Call (.Attribute o "insert" apos) [a, b] [] cpos) pos) (lS F (sIns i da db)) := PS.mono (ps_expr (pe_bm PySem.F.plainAttrs_list PySem.F.slot_list_insert PySem.F.type_list_insert mt_insert ho (pa_cons ha (pa_cons hb pa_nil hs2) hs) hbase hfew hline hs hplain) hsw) fun E σ H ⟨env, L, P, A, pp, hn, _⟩ => by
  obtain ⟨xs, h, pp⟩ := ob_elim pp
  obtain ⟨t, vs, hs, ha, hv, hd⟩ := ow_get A h
  refine ⟨_, hs, .inl ⟨rfl, vs, SqL.of hv⟩, env, L, _, A, pp, fun y w H1 px k1 o1 d1 => ⟨env, L, _, A.step k1 o1, px, fun x v H2 px k2 o2 d2 => ?_⟩⟩
  cases y with
  | int n =>
    cases d1
    have A2 := (A.step k1 o1).step k2 o2
    obtain ⟨a2, vs2, hs2, ha2, hv2, hd2⟩ := ow_get A2 h
    rw [hs] at hs2
    cases hs2
    obtain ⟨B, pr⟩ := ow_put A2 h hs ha2 (((hd2.take n.toNat).app (.cons d2 .nil)).app (hd2.drop n.toNat))
    exact ⟨t, vs2, n, v, rfl, rfl, hv2, by rw [hd2.len]; exact px.1, px.2.1, px.2.2.1, hn _ _ _ _ px.2.2.2 B (((k1.trans k2).pres A).trans pr)⟩
  | _ => exact px.elim
def sExt (i : Nat) (d : TDE) : TDS := fun P env => ob (owAt env i) fun xs => d env fun x => match x with | .lst ys => xs.length + ys.length ≤ sizeLine ∧ P.nx (env.set i (.ow (xs ++ ys))) | _ => False
def sClr (i : Nat) : TDS := fun P env => ob (owAt env i) fun _ => P.nx (env.set i (.ow []))
def sRev (i : Nat) : TDS := fun P env => ob (owAt env i) fun xs => P.nx (env.set i (.ow xs.reverse))
def sPut (i : Nat) (de dk : TDE) : TDS := fun P env => de env fun x => ob (owAt env i) fun xs => dk env fun k => match k with | .int n => ob (ixN xs.length n) fun m => P.nx (env.set i (.ow (xs.set m x))) | _ => False
def frz (e : En) : Option En := (owD e).map En.fz
def sFrz (i : Nat) (s : TDS) : TDS := fun P env => ob (env[i]?.bind frz) fun e => s P (env.set i e)
end
end DL
namespace DL
open PySem PySem.Spec PyProof.Rows L2 RK
structure Stn (H H' : Hp) : Prop where
  f : ∀ a o, H a = some o → H' a = some o
  n : NoT H H'
theorem Stn.refl (H : Hp) : Stn H H := ⟨fun _ _ z => z, fun _ _ z => ⟨_, z⟩⟩
theorem Stn.new {H : Hp} {p : Addr} {o : HO} (h : H p = none) (n : Ntb o) : Stn H (upd H p o) := ⟨fun a u q => by rw [upd_ne (ne_of_none q h)]; exact q, noT_upd n⟩
instance {H H' : Hp} : CoeFun (Stn H H') fun _ => ∀ a o, H a = some o → H' a = some o := ⟨Stn.f⟩
def ItOk (F : Fx) (Rel : (Addr → Prop) → Hp → Prop) (J : It) (xs : List D) : Prop := ∀ N' H', Rel N' H' → (∀ a, N' a → ∃ o, H' a = some o) → ∀ i : Nat, (xs.length = i → J.stop i H') ∧
  ∀ x, xs[i]? = some x → J.go i H' ∧ ∀ v H2, J.yld i H' v H2 → Stn H' H2 ∧ Dd F.K N' F.W H2 v x
def relP (F : Fx) (L : List Addr) (H : Hp) : (Addr → Prop) → Hp → Prop := fun N' H' => ∀ a o, ¬ F.N L a → H a = some o → ¬ N' a ∧ H' a = some o
def relK (F : Fx) (L : List Addr) (H : Hp) : (Addr → Prop) → Hp → Prop := fun N' H' => ∀ a o, ¬ F.W.own a → H a = some o → (¬ F.N L a → ¬ N' a) ∧ H' a = some o
abbrev TDI := De → (List D → Prop) → Prop
def lI (F : Fx) (d : TDI) : TI := fun σ H R => ∃ env L P, Abs F env σ L H ∧ d env P ∧ ∀ xs J H', P xs → KeepW F.W H H' → F.W.ok H' → ItOk F (relP F L H') J xs → R J H'
def lIb (F : Fx) (d : TDI) : TI := fun σ H R => ∃ env L P, Abs F env σ L H ∧ d env P ∧ ∀ xs J H', P xs → KeepW F.W H H' → F.W.ok H' → ItOk F (relK F L H') J xs → R J H'
section
variable {X : Cx} {F : Fx} {e a b c tg iter : Expr} {es : List Expr} {d da db dc : TDE} {ds : TDA} {pos p : Pos} {i j l : Nat}
theorem it_list {Rel : (Addr → Prop) → Hp → Prop} {t : Addr} {vs : List V} {xs : List D} (h : ∀ N' H', Rel N' H' → H' t = some (.lst vs) ∧ DdAll F.K N' F.W H' vs xs) : ItOk F Rel (Itl F.K t) xs := fun N' H' r _ i => by
  obtain ⟨h1, h2⟩ := h N' H' r
  refine ⟨fun hi => ⟨vs, SqL.of h1, by rw [h2.len]; exact Nat.le_of_eq hi⟩, fun x hx => ?_⟩
  obtain ⟨v, hv, dv⟩ := h2.get hx
  refine ⟨⟨vs, v, SqL.of h1, hv⟩, fun w H2 hy => ?_⟩
  obtain ⟨rfl, hy⟩ := hy
  have := hy vs (SqL.of h1)
  rw [hv] at this
  cases this
  exact ⟨.refl _, dv⟩
theorem it_tup {Rel : (Addr → Prop) → Hp → Prop} {t : Addr} {vs : List V} {xs : List D} (h : ∀ N' H', Rel N' H' → SqT F.K H' t vs ∧ DdAll F.K N' F.W H' vs xs) : ItOk F Rel (Itt F.K t) xs := fun N' H' r _ i => by
  obtain ⟨h1, h2⟩ := h N' H' r
  refine ⟨fun hi => ⟨vs, h1, by rw [h2.len]; exact Nat.le_of_eq hi⟩, fun x hx => ?_⟩
  obtain ⟨v, hv, dv⟩ := h2.get hx
  refine ⟨⟨vs, v, h1, hv⟩, fun w H2 hy => ?_⟩
  obtain ⟨rfl, hy⟩ := hy
  have := hy vs h1
  rw [hv] at this
  cases this
  exact ⟨.refl _, dv⟩
def rngD (lo : Int) (n : Nat) : List D := (List.range n).map fun k => .int (lo + (k : Nat))
theorem it_rng {Rel : (Addr → Prop) → Hp → Prop} {lo : Int} {n : Nat} : ItOk F Rel (Itr lo n) (rngD lo n) := fun N' H' r _ i => by
  refine ⟨fun hi => (show n ≤ i by have := Nat.le_of_eq hi; simpa [rngD] using this), fun x hx => ?_⟩
  have hi : i < n := by
    have := (List.getElem?_eq_some_iff.mp hx).1
    simpa [rngD] using this
  have e : x = .int (lo + (i : Nat)) := by
    unfold rngD at hx
    rw [List.getElem?_map, List.getElem?_range hi] at hx
    exact (Option.some.inj hx).symm
  subst e
  refine ⟨hi, fun w H2 hy => ?_⟩
  obtain ⟨rfl, rfl⟩ := hy
  exact ⟨.refl _, .int _⟩
theorem PI.mono {w w' : TI} (h : PI X tg iter w) (m : ∀ σ H R, w' σ H R → w σ H R) : PI X tg iter w' := ⟨fun pins s σ H R I q => h.run pins s σ H R I (m σ H R q)⟩
theorem PI.or {w w' : TI} (h : PI X tg iter w) (h' : PI X tg iter w') : PI X tg iter (fun σ H R => w σ H R ∨ w' σ H R) := ⟨fun pins s σ H R I q => by
  rcases q with q | q
  · exact h.run pins s σ H R I q
  · exact h'.run pins s σ H R I q⟩
def lstD : D → Option (List D)
  | .lst xs => some xs
  | _ => none
def tupD : D → Option (List D)
  | .tup xs => some xs
  | .ktp xs => some xs
  | _ => none
def sgnD : D → Option (List D)
  | .str z => some (z.cps.toList.map fun c => .str ⟨#[c]⟩)
  | _ => none
def iSeq (d : TDE) : TDI := fun env P => (d env fun x => ob (lstD x) P) ∨ ((d env fun x => ob (tupD x) P) ∨ (d env fun x => ob (sgnD x) P))
theorem it_str {Rel : (Addr → Prop) → Hp → Prop} {z : Str} : ItOk F Rel (Its z) (z.cps.toList.map fun c => .str ⟨#[c]⟩) := fun N' H' r _ i => by
  refine ⟨fun hi => (show z.cps.size ≤ i by have := Nat.le_of_eq hi; simpa using this), fun x hx => ?_⟩
  rw [List.getElem?_map] at hx
  obtain ⟨c, hc, rfl⟩ := Option.map_eq_some_iff.mp hx
  have hi : i < z.cps.size := by simpa using (List.getElem?_eq_some_iff.mp hc).1
  have hc2 : z.cps[i]? = some c := by rw [← Array.getElem?_toList]; exact hc
  refine ⟨hi, fun w H2 hy => ?_⟩
  obtain ⟨rfl, c', h1, rfl⟩ := hy
  rw [hc2] at h1
  cases h1
  exact ⟨.refl _, .str _⟩
theorem lstD_e {x : D} {xs : List D} (h : lstD x = some xs) : x = .lst xs := by cases x <;> cases h; rfl
theorem seqT_keep {N N' : Addr → Prop} {H H' : Hp} {v : V} {x : D} {xs : List D} (e : tupD x = some xs) (h : Dd F.K N F.W H v x) : ∃ t vs, v = .ref t ∧ SqT F.K H t vs ∧ ∀ N' H', (∀ a o, ¬ N a → H a = some o → ¬ N' a ∧ H' a = some o) → SqT F.K H' t vs ∧ DdAll F.K N' F.W H' vs xs := by
  cases x <;> cases e
  · obtain ⟨t, vs, rfl, h1, h2, h3⟩ := dd_tupE h
    exact ⟨t, vs, rfl, SqT.of h1, fun N' H' r => ⟨SqT.of (r t _ h2 h1).2, h3.pres r⟩⟩
  · cases h with | ktp h1 h2 h3 h4 h5 h6 => exact ⟨_, _, rfl, .inr ⟨_, _, _, h1, h2, h3, h4, h5⟩, fun N' H' r => ⟨.inr ⟨_, _, _, h1, h2, h3, h4, h5⟩, h6.pres r⟩⟩
theorem di_seq (he : PE X e (lC F d)) (hK : F.K = X.K := by rfl) : PI X tg e (lI F (iSeq d)) := PI.mono (PI.or (pi_list he) (PI.or (pi_tup he) (pi_str he))) fun σ H R ⟨env, L, P, A, pp, q⟩ => by
  rw [← hK]
  rcases pp with pp | pp | pp
  · refine .inl ⟨env, L, _, A, pp, fun x v H1 px k1 o1 d1 => ?_⟩
    obtain ⟨xs, e, px⟩ := ob_elim px
    have := lstD_e e
    subst this
    obtain ⟨t, vs, rfl, h1, h2, h3⟩ := dd_lstE d1
    exact ⟨t, rfl, ⟨vs, SqL.of h1⟩, q xs _ H1 px k1 o1 (it_list fun N' H' r => ⟨(r t _ h2 h1).2, h3.pres r⟩)⟩
  · refine .inr (.inl ⟨env, L, _, A, pp, fun x v H1 px k1 o1 d1 => ?_⟩)
    obtain ⟨xs, e, px⟩ := ob_elim px
    obtain ⟨t, vs, rfl, h1, h2⟩ := seqT_keep (N' := fun _ => False) (H' := H1) e d1
    exact ⟨t, rfl, ⟨vs, h1⟩, q xs _ H1 px k1 o1 (it_tup fun N' H' r => h2 N' H' r)⟩
  · refine .inr (.inr ⟨env, L, _, A, pp, fun x v H1 px k1 o1 d1 => ?_⟩)
    obtain ⟨xs, e, px⟩ := ob_elim px
    cases x <;> cases e
    have := dd_strE d1
    subst this
    exact ⟨_, rfl, q _ _ H1 px k1 o1 it_str⟩
theorem relK_p {L : List Addr} {H : Hp} {N' : Addr → Prop} {H' : Hp} {env : De} {σ : L2.St} (A : Abs F env σ L H) (r : relK F L H N' H') : ∀ a o, ¬ F.N L a → H a = some o → ¬ N' a ∧ H' a = some o := fun a o n h => ⟨(r a o (nw_of A n) h).1 n, (r a o (nw_of A n) h).2⟩
theorem bw_lstO {env : De} {σ : L2.St} {L : List Addr} {H : Hp} (A : Abs F env σ L H) {v : V} {xs : List D} (h : Bw F L H v (.lst xs)) : ∃ t vs, v = .ref t ∧ H t = some (.lst vs) ∧ ¬ F.W.own t ∧ DdAll F.K (F.N L) F.W H vs xs := by
  rcases h with h | ⟨e, h1, h2, h3⟩
  · obtain ⟨t, vs, rfl, h1, h2, h3⟩ := dd_lstE h
    exact ⟨t, vs, rfl, h1, nw_of A h2, h3⟩
  · cases e with
    | ow es =>
      cases h3
      cases v with
      | ref a =>
        obtain ⟨g1, vs, g2, g3⟩ := h2
        exact ⟨a, vs, rfl, g2, fun z => A.out g1 (A.wn a z), g3⟩
      | _ => exact h2.elim
    | no => cases h1
    | fz _ => cases h1
    | oo _ _ _ => cases h1
    | fe _ => cases h1
    | od _ => cases h3
    | ot _ => cases h3
    | otr _ _ => cases h3
theorem bw_tupC {L : List Addr} {H : Hp} {v : V} {x : D} {xs : List D} (e : tupD x = some xs) (h : Bw F L H v x) : Dd F.K (F.N L) F.W H v x := by
  rcases h with h | ⟨en, h1, h2, h3⟩
  · exact h
  · cases en with
    | no => cases h1
    | fz _ => cases h1
    | oo _ _ _ => cases h1
    | fe _ => cases h1
    | ow _ => subst h3; cases e
    | od _ => subst h3; cases e
    | ot _ => subst h3; cases e
    | otr _ _ => subst h3; cases e
theorem db_seq (he : PE X e (lB F d)) (hK : F.K = X.K := by rfl) : PI X tg e (lIb F (iSeq d)) := PI.mono (PI.or (pi_list he) (PI.or (pi_tup he) (pi_str he))) fun σ H R ⟨env, L, P, A, pp, q⟩ => by
  rw [← hK]
  rcases pp with pp | pp | pp
  · refine .inl ⟨env, L, _, A, pp, fun x v H1 px k1 o1 d1 => ?_⟩
    obtain ⟨xs, e, px⟩ := ob_elim px
    have := lstD_e e
    subst this
    obtain ⟨t, vs, rfl, h1, h2, h3⟩ := bw_lstO (A.step k1 o1) d1
    exact ⟨t, rfl, ⟨vs, SqL.of h1⟩, q xs _ H1 px k1 o1 (it_list fun N' H' r => ⟨(r t _ h2 h1).2, h3.pres (relK_p (A.step k1 o1) r)⟩)⟩
  · refine .inr (.inl ⟨env, L, _, A, pp, fun x v H1 px k1 o1 d1 => ?_⟩)
    obtain ⟨xs, e, px⟩ := ob_elim px
    obtain ⟨t, vs, rfl, h1, h2⟩ := seqT_keep (N' := fun _ => False) (H' := H1) e (bw_tupC e d1)
    exact ⟨t, rfl, ⟨vs, h1⟩, q xs _ H1 px k1 o1 (it_tup fun N' H' r => h2 N' H' (relK_p (A.step k1 o1) r))⟩
  · refine .inr (.inr ⟨env, L, _, A, pp, fun x v H1 px k1 o1 d1 => ?_⟩)
    obtain ⟨xs, e, px⟩ := ob_elim px
    cases x <;> cases e
    have := bw_str d1
    subst this
    exact ⟨_, rfl, q _ _ H1 px k1 o1 it_str⟩
def iRng (ds : TDA) : TDI := fun env P => ds env fun xs => match xs with
  | [.int n] => -(2 ^ 62) ≤ n ∧ n < 2 ^ 62 ∧ P (rngD 0 n.toNat)
  | _ => False
def iRngB (ds : TDA) : TDI := fun env P => ds env fun xs => match xs with
  | [.int m, .int n] => (-(2 ^ 62) ≤ m ∧ m < 2 ^ 62 ∧ -(2 ^ 62) ≤ n ∧ n < 2 ^ 62) ∧ P (rngD m (n - m).toNat)
  | _ => False
theorem ints1 {K : PySem.W.Frag} {N : Addr → Prop} {W : Wd} {H : Hp} {vs : List V} {n : Int} (h : DdAll K N W H vs [.int n]) : vs = [.int n] := by
  cases h with | cons h t => cases t; rw [dd_intE h]
theorem l_rng {q : TI → Prop} : ∀ σ H R, (lI F (iRng ds) σ H R ∨ lIb F (iRng ds) σ H R) → iRng1 (lA F ds) σ H R := fun σ H R h => by
  have key : ∀ (Rel : List Addr → Hp → (Addr → Prop) → Hp → Prop), (∃ env L P, Abs F env σ L H ∧ iRng ds env P ∧ ∀ xs J H', P xs → KeepW F.W H H' → F.W.ok H' → ItOk F (Rel L H') J xs → R J H') → iRng1 (lA F ds) σ H R := fun Rel ⟨env, L, P, A, pp, q⟩ =>
    ⟨env, L, _, A, pp, fun xs vs H1 px k1 o1 d1 => by
      match xs, px, d1 with
      | [.int n], px, d1 => exact ⟨n, ints1 d1, px.1, px.2.1, q _ _ H1 px.2.2 k1 o1 it_rng⟩⟩
  rcases h with h | h
  · exact key (relP F) h
  · exact key (relK F) h
theorem di_rng (hg : Gl X "range") (hm : X.mg "range" = none) (ha : PA X [a] (lA F ds)) (hs : starEach [a] X.env = [(false, eval a X.env)] := by rfl) : PI X tg (.Call (.Name "range" p) [a] [] pos) (lI F (iRng ds)) := PI.mono (pi_range1 hg hm ha hs) fun σ H R h => l_rng (q := fun _ => True) σ H R (.inl h)
theorem db_rng (hg : Gl X "range") (hm : X.mg "range" = none) (ha : PA X [a] (lA F ds)) (hs : starEach [a] X.env = [(false, eval a X.env)] := by rfl) : PI X tg (.Call (.Name "range" p) [a] [] pos) (lIb F (iRng ds)) := PI.mono (pi_range1 hg hm ha hs) fun σ H R h => l_rng (q := fun _ => True) σ H R (.inr h)
def sLoop (g : TDG) (body : TDS) (P : DEnds) : List D → De → Prop
  | [], env => P.nx env
  | x :: xs, env => g x env fun env' => body { nx := sLoop g body P xs, rt := P.rt, bk := P.nx, ct := sLoop g body P xs } env'
def sFor (it : TDI) (g : TDG) (body : TDS) : TDS := fun P env => it env fun xs => sLoop g body P xs env
theorem same_keep {W : Wd} {H H' : Hp} (h : Stn H H') : KeepW W H H' := fun a o _ q => h a o q
theorem same_ok {W : Wd} {H H' : Hp} (k : W.ok H) (h : Stn H H') : W.ok H' := Wd.st k (fun a o q _ => h a o q) h.n
theorem l_for {S : List Nat} {it : TDI} {g : TDG} {body : TDS} : ∀ E σ H, lS F (sFor it g body) E σ H → tFor (lI F it) (lG F S g) (lS F body) E σ H := fun E σ H ⟨env, L, P, A, pp, hn, hr, hb, hc⟩ =>
  ⟨env, L, _, A, pp, fun xs J H1 px k1 o1 ok => by
    have pr0 : Pres F L H L H1 := k1.pres A
    refine ⟨fun i m σ' H' => ∃ env' L', Abs F env' σ' L' H' ∧ Pres F L H1 L' H' ∧ sLoop g body P (xs.drop i) env' ∧ i ≤ xs.length ∧ m = xs.length - i, ⟨_, env, L, A.step k1 o1, .refl _ _ _, px, Nat.zero_le _, rfl⟩, ?_⟩
    rintro i m σ' H' ⟨env', L', A', pr, lp, hi, rfl⟩
    obtain ⟨st, go⟩ := ok (F.N L') H' (fun a o n h => pr a o n h) (fun a h => A'.alO h) i
    by_cases hlt : i < xs.length
    · obtain ⟨g1, g2⟩ := go xs[i] (List.getElem?_eq_getElem hlt)
      refine .inr ⟨g1, fun σ2 H2 => ∃ env2 L2, Abs F env2 σ2 L2 H2 ∧ Pres F L H1 L2 H2 ∧ sLoop g body P (xs.drop (i + 1)) env2, fun σ2 H2 ⟨env2, L2, a1, a2, a3⟩ => ⟨xs.length - (i + 1), by omega, env2, L2, a1, a2, a3, hlt, rfl⟩, fun v H2 hy => ?_⟩
      obtain ⟨sm, dd⟩ := g2 v H2 hy
      rw [List.drop_eq_getElem_cons hlt] at lp
      have A2 := A'.step (same_keep sm) (same_ok A'.ok sm)
      have pr2 : Pres F L H1 L' H2 := pr.trans fun a o n h => ⟨n, sm a o h⟩
      exact ⟨env', L', _, _, A2, dd, lp, fun env3 σ3 p3 A3 _ _ => ⟨env3, L', _, A3, p3, fun env4 σ4 L4 H4 p4 A4 pr4 => ⟨env4, L4, A4, pr2.trans pr4, p4⟩, hr, fun env4 σ4 L4 H4 p4 A4 pr4 => hn env4 σ4 L4 H4 p4 A4 ((pr0.trans pr2).trans pr4), fun env4 σ4 L4 H4 p4 A4 pr4 => ⟨env4, L4, A4, pr2.trans pr4, p4⟩⟩⟩
    · have e : xs.drop i = [] := List.drop_eq_nil_of_le (by omega)
      rw [e] at lp
      exact .inl ⟨st (by omega), hn env' σ' L' H' lp A' (pr0.trans pr)⟩⟩
theorem ds_for {S : List Nat} {it : TDI} {g : TDG} {sts : List Stmt} {body : TDS} (hp : PassesOwn (model X.prog X.w) X.A X.env X.xe) (hc : X.calm = true) (hi : PI X tg iter (lI F it)) (hg : PG X tg (lG F S g)) (hb : PSs X sts (lS F body)) (hs : ∀ x, foldedSetIterable iter X.env x = pure x := by intro _; rfl) :
    PS X (.For tg iter sts [] pos) (lS F (sFor it g body)) := PS.mono (ps_for hp hc hi hg hb hs) l_for
def sWhile (c : TDT) (body : TDS) : TDS := fun P env => ∃ I : Nat → De → Prop, (∃ m, I m env) ∧ ∀ m env, I m env → c env fun b => if b = true then body { nx := fun e => ∃ m', m' < m ∧ I m' e, rt := P.rt, bk := P.nx, ct := fun e => ∃ m', m' < m ∧ I m' e } env else P.nx env
theorem l_while {tc : TDT} {body : TDS} : ∀ E σ H, lS F (sWhile tc body) E σ H → tWhile (lT F tc) (lS F body) E σ H := fun E σ H ⟨env, L, P, A, ⟨I, ⟨m0, i0⟩, st⟩, hn, hr, hb, hc⟩ => by
  refine ⟨fun m σ' H' => ∃ env' L', Abs F env' σ' L' H' ∧ Pres F L H L' H' ∧ I m env', ⟨m0, env, L, A, .refl _ _ _, i0⟩, ?_⟩
  rintro m σ' H' ⟨env', L', A', pr, im⟩
  refine ⟨env', L', _, A', st m env' im, fun x H1 px k1 o1 => ?_⟩
  have pr1 : Pres F L H L' H1 := pr.trans (k1.pres A')
  cases x with
  | true => exact iteT ⟨fun σ2 H2 => ∃ env2 L2, Abs F env2 σ2 L2 H2 ∧ Pres F L H L2 H2 ∧ ∃ m', m' < m ∧ I m' env2, fun σ2 H2 ⟨env2, L2, a1, a2, m', a3, a4⟩ => ⟨m', a3, env2, L2, a1, a2, a4⟩, env', L', _, A'.step k1 o1, px, fun env2 σ2 L2 H2 p2 A2 pr2 => ⟨env2, L2, A2, pr1.trans pr2, p2⟩, hr, fun env2 σ2 L2 H2 p2 A2 pr2 => hn env2 σ2 L2 H2 p2 A2 (pr1.trans pr2), fun env2 σ2 L2 H2 p2 A2 pr2 => ⟨env2, L2, A2, pr1.trans pr2, p2⟩⟩
  | false => exact iteF (hn env' σ' L' H1 px (A'.step k1 o1) pr1)
theorem ds_while {tc : TDT} {sts : List Stmt} {body : TDS} (hp : PassesOwn (model X.prog X.w) X.A X.env X.xe) (hc : PT X c (lT F tc)) (hb : PSs X sts (lS F body)) : PS X (.While c sts [] pos) (lS F (sWhile tc body)) := PS.mono (ps_while hp hc hb) l_while
end
end DL
namespace DL
open PySem PySem.Spec PyProof.Rows L2 RK
def wipeE (env : De) : List Nat → De
  | [] => env
  | v :: vs => (wipeE env vs).set v .no
section
variable {F : Fx} {env : De} {σ : L2.St} {L : List Addr} {H H' : Hp}
theorem Abs.setN (A : Abs F env σ L H) (i : Nat) : Abs F (env.set i .no) (σ.set i none) L H := by
  refine ⟨A.ok, A.al, A.wn, A.kp, A.fr, by rw [List.length_set, List.length_set, A.ls], fun j l a ej el h1 h2 o1 o2 s1 s2 => ?_, A.so.set0 rfl rfl _, fun j e y h1 h2 => ?_⟩
  · by_cases hj : i = j
    · subst hj
      by_cases hi : i < env.length
      · rw [List.getElem?_set_self hi] at h1
        cases h1
        cases o1
      · rw [List.getElem?_eq_none (by rw [List.length_set]; omega)] at h1
        cases h1
    · by_cases hl : i = l
      · subst hl
        by_cases hi : i < env.length
        · rw [List.getElem?_set_self hi] at h2
          cases h2
          cases o2
        · rw [List.getElem?_eq_none (by rw [List.length_set]; omega)] at h2
          cases h2
      · rw [List.getElem?_set_ne hj] at h1 s1
        rw [List.getElem?_set_ne hl] at h2 s2
        exact A.sep j l a ej el h1 h2 o1 o2 s1 s2
  · by_cases hj : i = j
    · subst hj
      by_cases hi : i < env.length
      · rw [List.getElem?_set_self hi] at h1
        cases h1
        trivial
      · rw [List.getElem?_eq_none (by rw [List.length_set]; omega)] at h1
        cases h1
    · rw [List.getElem?_set_ne hj] at h1 h2
      exact A.en j e y h1 h2
theorem Abs.wipe (A : Abs F env σ L H) : ∀ vs : List Nat, Abs F (wipeE env vs) (L2.wipe σ vs) L H
  | [] => A
  | v :: vs => (A.wipe vs).setN v
theorem Abs.poke (A : Abs F env σ L H) {a : Addr} {o' : HO} (ha : a ∈ L) (lo : Lone env σ a) (po : Plo o' := by exact True.intro) : Abs F env σ L (upd H a o') := by
  have na : ¬ F.N0 a := A.out ha
  have nw : ¬ F.W.own a := fun z => na (A.wn a z)
  refine ⟨?_, A.al, A.wn, fun x u q h => ?_, fun b hb => ?_, A.ls, A.sep, A.so, fun j e2 y h1 h2 => ?_⟩
  · exact Wd.st A.ok (n := noT_upd po.ntb) fun b u h q => by
      have ne : b ≠ a := fun z => by
        rcases q with q | q
        · exact nw (by rw [← z]; exact q)
        · obtain ⟨_, o, e, pl⟩ := A.fr a ha
          rw [z, e] at h
          exact q (Option.some.inj h ▸ pl)
      rw [upd_ne ne]
      exact h
  · have hx := A.kp x u q h
    have ne : x ≠ a := fun z => by
      rw [z, (A.fr a ha).1] at h
      cases h
    rw [upd_ne ne]
    exact hx
  · refine ⟨(A.fr b hb).1, ?_⟩
    by_cases e : b = a
    · subst e
      exact ⟨_, upd_same, po⟩
    · rw [upd_ne e]
      exact (A.fr b hb).2
  · refine EnOk.keep A (fun x u q h => ?_) (fun _ z => z) (fun b hb ob hbL => ⟨hbL, fun u hu => ?_⟩) (fun b hb hbL => ⟨hbL, fun u hu => by
      have : b ≠ a := fun z => lo.2 j e2 h1 (z ▸ hb)
      rw [upd_ne this]
      exact hu⟩) (A.en j e2 y h1 h2)
    · have ne : x ≠ a := fun z => q (.inr (by rw [z]; exact ha))
      rw [upd_ne ne]
      exact h
    · have ne : b ≠ a := fun z => lo.1 j e2 h1 ob (by rw [h2, hb, z])
      rw [upd_ne ne]
      exact hu
end
def dComp (g : TDG) (tt : TDT) (te : TDE) (P : D → Prop) (env : De) : List D → List D → Prop
  | [], acc => P (.lst acc)
  | x :: xs, acc => g x env fun env' => tt env' fun b => if b = true then te env' fun y => acc.length < sizeLine ∧ dComp g tt te P env xs (acc ++ [y]) else dComp g tt te P env xs acc
def dLc (it : TDI) (g : TDG) (tt : TDT) (te : TDE) (vs : List Nat) : TDE := fun env P => it env fun xs => dComp g tt te P (wipeE env vs) xs []
def tYesD : TDT := fun _ P => P true
section
variable {X : Cx} {F : Fx} {e a b c tg iter : Expr} {es : List Expr} {d da db dc : TDE} {ds : TDA} {pos p : Pos} {i j l : Nat}
theorem ts_nil : PTs X [] (lT F tYesD) := ⟨fun pins s σ H Q I h => pts_nil.run pins s σ H Q I (let ⟨_, _, _, A, pp, q⟩ := h; q true H pp (.refl _ _) A.ok)⟩
theorem ts_one {t : TDT} (h : PT X c (lT F t)) : PTs X [c] (lT F t) := pts_one h
theorem l_lc {S vs : List Nat} {it : TDI} {g : TDG} {tt : TDT} {te : TDE} (hS : ∀ i ∈ S, i ∈ vs) : ∀ σ H Q, lN F (dLc it g tt te vs) σ H Q → tLc (lIb F it) (lG F S g) (lT F tt) (lC F te) vs σ H Q := fun σ H Q ⟨env, L, P, A, pp, q⟩ =>
  ⟨env, L, _, A, pp, fun xs J H1 px k1 o1 ok D nD => by
    have A1 := A.step k1 o1
    have lo : Lone (wipeE env vs) (wipe σ vs) D := (A1.wipe vs).lone nD
    have B0 : Abs F (wipeE env vs) (wipe σ vs) (D :: L) (upd H1 D (.lst [])) := (A1.wipe vs).hold (x := .lst []) (.new nD) (ok_new o1 nD) nD ⟨[], upd_same, .nil⟩
    refine ⟨fun i m H' => ∃ acc us, Abs F (wipeE env vs) (wipe σ vs) (D :: L) H' ∧ (∀ a o, ¬ F.W.own a → H1 a = some o → H' a = some o) ∧ H' D = some (.lst us) ∧ DdAll F.K (F.N (D :: L)) F.W H' us acc ∧ dComp g tt te P (wipeE env vs) (xs.drop i) acc ∧ i ≤ xs.length ∧ m = xs.length - i,
      ⟨_, [], [], B0, fun a o _ h => by rw [upd_ne (ne_of_none h nD)]; exact h, upd_same, .nil, px, Nat.zero_le _, rfl⟩, ?_⟩
    rintro i m H' ⟨acc, us, B, kk, hD, hu, lp, hi, rfl⟩
    obtain ⟨st, go⟩ := ok (F.N (D :: L)) H' (fun a o n h => ⟨fun nn z => by
      rcases z with z | z
      · exact nn (.inl z)
      · rcases List.mem_cons.mp z with z | z
        · rw [z, nD] at h
          cases h
        · exact nn (.inr z), kk a o n h⟩) (fun a h => B.alO h) i
    by_cases hlt : i < xs.length
    · obtain ⟨g1, g2⟩ := go xs[i] (List.getElem?_eq_getElem hlt)
      rw [List.drop_eq_getElem_cons hlt] at lp
      refine .inr ⟨g1, fun H2 => ∃ acc us, Abs F (wipeE env vs) (wipe σ vs) (D :: L) H2 ∧ (∀ a o, ¬ F.W.own a → H1 a = some o → H2 a = some o) ∧ H2 D = some (.lst us) ∧ DdAll F.K (F.N (D :: L)) F.W H2 us acc ∧ dComp g tt te P (wipeE env vs) (xs.drop (i + 1)) acc,
        fun H2 ⟨acc, us, a1, a2, a3, a4, a5⟩ => ⟨xs.length - (i + 1), by omega, acc, us, a1, a2, a3, a4, a5, hlt, rfl⟩, fun v H2 hy => ?_⟩
      obtain ⟨sm, dd⟩ := g2 v H2 hy
      have B2 := B.step (same_keep sm) (same_ok B.ok sm)
      refine ⟨_, _, _, _, B2, dd, lp, fun env3 σ3 p3 B3 w3 _ => ⟨?_, env3, _, _, B3, p3, fun bb H3 p4 k4 o4 => ?_⟩⟩
      · rw [w3 vs hS]
        have : ∀ ws : List Nat, wipe (wipe σ ws) ws = wipe σ ws := by
          intro ws
          apply List.ext_getElem?
          intro n
          by_cases hn : n < (wipe σ ws).length
          · cases hx : (wipe (wipe σ ws) ws)[n]? with
            | none =>
              rw [List.getElem?_eq_none_iff, wipe_length] at hx
              omega
            | some y =>
              cases hz : (wipe σ ws)[n]? with
              | none =>
                rw [List.getElem?_eq_none_iff] at hz
                omega
              | some z =>
                cases y with
                | some y =>
                  rw [(wipe_some hx).1] at hz
                  rw [Option.some.inj hz]
                | none =>
                  cases z with
                  | none => rfl
                  | some z =>
                    exfalso
                    have nm := (wipe_some hz).2
                    have keep : ∀ (τ : L2.St) (us : List Nat), n ∉ us → (wipe τ us)[n]? = τ[n]? := by
                      intro τ us
                      induction us with
                      | nil => intro _; rfl
                      | cons u us ih =>
                        intro hu
                        unfold wipe
                        rw [List.getElem?_set_ne (fun z => hu (by rw [z]; exact List.mem_cons_self)), ih (fun z => hu (List.mem_cons_of_mem _ z))]
                    rw [keep _ ws nm, hz] at hx
                    cases hx
          · rw [List.getElem?_eq_none (by rw [wipe_length]; omega), List.getElem?_eq_none (by omega)]
        exact this vs
      · have B4 := B3.step k4 o4
        have W4 : Abs F (wipeE env vs) (wipe σ vs) (D :: L) H3 := B2.step k4 o4
        have nD0 : ¬ F.W.own D := fun z => B.out List.mem_cons_self (B.wn D z)
        cases bb with
        | true =>
          refine iteT ⟨env3, _, _, B4, p4, fun y v' H5 p5 k5 o5 d5 => ?_⟩
          have hD5 : H5 D = some (.lst us) := k5 D _ nD0 (k4 D _ nD0 (sm D _ hD))
          have hu5 : DdAll F.K (F.N (D :: L)) F.W H5 us acc := W4.kda k5 (B2.kda k4 (B.kda (same_keep sm) hu))
          have W5 := W4.step k5 o5
          refine ⟨us, hD5, by rw [hu5.len]; exact p5.1, acc ++ [y], us ++ [v'], W5.poke List.mem_cons_self lo, fun a o n h => ?_, upd_same, (hu5.app (.cons d5 .nil)).keep (fun x u q h => ?_) (fun _ z => z), p5.2⟩
          · rw [upd_ne (ne_of_none h nD)]
            exact k5 a o n (k4 a o n (sm a o (kk a o n h)))
          · have ne : x ≠ D := fun z => q (.inr (by rw [z]; exact List.mem_cons_self))
            rw [upd_ne ne]
            exact h
        | false => exact iteF ⟨acc, us, W4, fun a o n h => k4 a o n (sm a o (kk a o n h)), k4 D _ nD0 (sm D _ hD), B2.kda k4 (B.kda (same_keep sm) hu), p4⟩
    · have e : xs.drop i = [] := List.drop_eq_nil_of_le (by omega)
      rw [e] at lp
      refine .inl ⟨st (by omega), q _ D H' lp (k1.trans fun a o n h => kk a o n h) B.ok (free_of k1 o1 nD) ⟨us, hD, hu⟩⟩⟩
def dDcomp (g : TDG) (tt : TDT) (tk tv : TDE) (P : D → Prop) (env : De) : List D → List (Key × D) → Prop
  | [], acc => P (.dic acc)
  | x :: xs, acc => g x env fun env' => tt env' fun b => if b = true then tk env' fun k => tv env' fun y => ob (keyD k) fun k => acc.length < sizeLine ∧ dDcomp g tt tk tv P env xs (putD acc k y) else dDcomp g tt tk tv P env xs acc
def dDc (it : TDI) (g : TDG) (tt : TDT) (tk tv : TDE) (vs : List Nat) : TDE := fun env P => it env fun xs => dDcomp g tt tk tv P (wipeE env vs) xs []
theorem wipe_wipe (σ : L2.St) (ws : List Nat) : wipe (wipe σ ws) ws = wipe σ ws := by
  apply List.ext_getElem?
  intro n
  have keep : ∀ (τ : L2.St) (us : List Nat), n ∉ us → (wipe τ us)[n]? = τ[n]? := by
    intro τ us
    induction us with
    | nil => intro _; rfl
    | cons u us ih =>
      intro hu
      unfold wipe
      rw [List.getElem?_set_ne (fun z => hu (by rw [z]; exact List.mem_cons_self)), ih (fun z => hu (List.mem_cons_of_mem _ z))]
  by_cases hm : n ∈ ws
  · have no : ∀ τ : L2.St, ∀ y, (wipe τ ws)[n]? ≠ some (some y) := fun τ y h => (wipe_some h).2 hm
    by_cases hn : n < σ.length
    · have f : ∀ τ : L2.St, n < τ.length → (wipe τ ws)[n]? = some none := fun τ h => by
        cases hx : (wipe τ ws)[n]? with
        | none => rw [List.getElem?_eq_none_iff, wipe_length] at hx; omega
        | some y => cases y with
          | none => rfl
          | some y => exact (no τ y hx).elim
      rw [f _ hn, f _ (by rw [wipe_length]; exact hn)]
    · rw [List.getElem?_eq_none (by rw [wipe_length, wipe_length]; omega), List.getElem?_eq_none (by rw [wipe_length]; omega)]
  · rw [keep _ ws hm]
end
def startE (N : List Str) (ds : List D) : De := ds.map En.fz ++ List.replicate (N.length - ds.length) En.no
theorem abs_start {K : PySem.W.Frag} {W : Wd} {N0 : Addr → Prop} {H : Hp} {fr : Fr} {N : List Str} {vs : List V} {ds : List D} (al : ∀ a, N0 a → ∃ o : HoN, H a = some o.1) (wn : ∀ a, W.own a → N0 a) (ok : W.ok H) (dd : DdAll K N0 W H vs ds) :
    Abs ⟨K, W, N0, H, fr⟩ (startE N ds) (start N vs) [] H := by
  have hl := dd.len
  have noOw : ∀ (i : Nat) (e : En), (startE N ds)[i]? = some e → e.isOw = true → False := fun i e h ow => by
    have := List.mem_of_getElem? h
    unfold startE at this
    rcases List.mem_append.mp this with h | h
    · obtain ⟨d, _, rfl⟩ := List.mem_map.mp h
      cases ow
    · rw [(List.mem_replicate.mp h).2] at ow
      cases ow
  have noAd : ∀ (i : Nat) (e : En) (b : Addr), (startE N ds)[i]? = some e → b ∈ e.ad → False := fun i e b h hb => by
    have := List.mem_of_getElem? h
    unfold startE at this
    rcases List.mem_append.mp this with h | h
    · obtain ⟨d, _, rfl⟩ := List.mem_map.mp h
      cases hb
    · rw [(List.mem_replicate.mp h).2] at hb
      cases hb
  refine ⟨ok, al, wn, .refl _ _, fun a h => (by cases h), ?_, fun i j a ei ej h1 h2 o1 o2 s1 s2 => (noOw i ei h1 o1).elim, fun i e b h hb => (noAd i e b h hb).elim, fun i e x h1 h2 => ?_⟩
  · unfold startE L2.start
    rw [List.length_append, List.length_append, List.length_map, List.length_map, List.length_replicate, List.length_replicate, hl]
  · unfold startE at h1
    unfold L2.start at h2
    by_cases hi : i < ds.length
    · rw [List.getElem?_append_left (by rw [List.length_map]; exact hi), List.getElem?_map, List.getElem?_eq_getElem hi] at h1
      rw [List.getElem?_append_left (by rw [List.length_map]; omega), List.getElem?_map, List.getElem?_eq_getElem (by omega)] at h2
      have e1 : e = .fz ds[i] := (Option.some.inj h1).symm
      have e2 : x = some (vs[i]'(by omega)) := (Option.some.inj h2).symm
      subst e1 e2
      obtain ⟨v, g1, g2⟩ := dd.get (List.getElem?_eq_getElem hi)
      rw [List.getElem?_eq_getElem (by omega)] at g1
      have e3 := Option.some.inj g1
      rw [e3]
      exact g2.keep (fun _ _ _ z => z) fun y hy => by
        rcases hy with hy | hy
        · exact hy
        · cases hy
    · rw [List.getElem?_append_right (by rw [List.length_map]; omega)] at h1
      rw [(List.mem_replicate.mp (List.mem_of_getElem? h1)).2]
      trivial
def fin (fr : Fr) (P : D → Prop) : DEnds := { nx := fun _ => fr = .b false ∧ P .non, rt := P }
theorem fn_d {K : PySem.W.Frag} {W : Wd} {N0 : Addr → Prop} {H : Hp} {fr : Fr} {N : List Str} {vs : List V} {ds : List D} {P : D → Prop} {Q : VK} {d : TDS} (al : ∀ a, N0 a → ∃ o : HoN, H a = some o.1) (wn : ∀ a, W.own a → N0 a) (ok : W.ok H) (dd : DdAll K N0 W H vs ds)
    (q : ∀ x v H', P x → KeepW W H H' → W.ok H' → Dd K N0 W H' v x → Nw K W N0 H fr H' v x → Q v H') (h : d (fin fr P) (startE N ds)) :
    lS ⟨K, W, N0, H, fr⟩ d { nx := fun _ H' => Q .non H', rt := Q } (start N vs) H := by
  have nv : ∀ {H' : Hp} {a : Addr} {x : D}, NewV ⟨K, W, N0, H, fr⟩ [] H' a x → NewV ⟨K, W, N0, H, .b true⟩ [] H' a x := fun {H' a x} h => by cases x <;> exact h
  refine ⟨_, [], _, abs_start al wn ok dd, h, fun env' σ' L' H' p A _ => ?_, fun x v H' p r => ?_, fun _ _ _ _ z => z.elim, fun _ _ _ _ z => z.elim⟩
  · exact q .non .non H' p.2 A.kp A.ok .non ⟨fun z => (by rw [p.1] at z; cases z), fun j z => (by rw [p.1] at z; cases z), fun z => by rw [p.1] at z; cases z⟩
  · exact q x v H' p r.kp r.ok r.dd ⟨fun z => (let ⟨a, h1, h2, h3⟩ := r.nw z; ⟨a, h1, h2, nv h3⟩), r.cj, r.pj⟩
end DL
namespace DL
open PySem PySem.Spec PyProof.Rows L2 RK
section
variable {X : Cx} {F : Fx} {e a b c o : Expr} {es : List Expr} {d da db dc : TDE} {ds : TDA} {pos p : Pos} {i j l : Nat}
theorem l_setF_n {t : TE} (h : ∀ σ H Q, lN F d σ H Q → t σ H Q) : ∀ E σ H, lS F (sSet i d) E σ H → tAsg t (gName i) E σ H := fun E σ H ⟨env, L, P, A, pp, hn, _⟩ =>
  h σ H _ ⟨env, L, _, A, pp, fun x v H1 px k o n nv => hn _ _ L H1 px ((A.step k o).setF (nv.dd (A.new n)) i) (k.pres A)⟩
def sPar3 (i j l : Nat) (da db dc : TDE) : TDS := fun P env => da env fun x => db env fun y => dc env fun z => P.nx (((env.set i (.fz x)).set j (.fz y)).set l (.fz z))
def dFld (C : Addr) (f : Str) (d : TDE) : TDE := fun env P => d env fun x => match x with | .obj C' fs => C' = C ∧ ob (fs.lookup f) P | _ => False
def dMeth (C : Addr) (m : Str) (sp : DSp) (d : TDE) (ds : TDA) : TDE := fun env P => d env fun x => match x with | .obj C' fs => C' = C ∧ fs.lookup m = none ∧ ds env fun xs => sp (.obj C' fs :: xs) P | _ => False
def dMk (C : Addr) (f : Str) (sp : DSp) (ds : TDA) : TDE := fun env P => ds env fun xs => sp xs fun y => P (.obj C [(f, y)])
end
def mergeD (kds more : List (Key × D)) : List (Key × D) := more.foldl (fun acc kd => putD acc kd.1 kd.2) kds
def dDictZip (ds : TDA) : TDE := fun env P => ds env fun xs => match xs with
  | [.lst ks, .lst ys] => ob (keysD ks) fun kk => kk.length = ys.length ∧ P (.dic (mergeD [] (kk.zip ys)))
  | _ => False
section
variable {P : Program} {w : World} {K : PySem.W.Frag} {mg : Str → Option Value} {base : Heap} {CX : CXT} {k : Nat} {f : Addr} {fd : FuncData} {ps : List Str}
def sp_pull : DSp := fun ds P => ∃ n : Int, ds = [.bag, .int n] ∧ 1 ≤ n ∧ n ≤ 10000000000000000000000000000000000000000 ∧ ∀ r : Int, 0 ≤ r → r < n → P (.int r)
theorem keepW_of {b s : Addr} {T : List (Addr × Str)} {H H' : Hp} (k : RK.Keep b H H') : KeepW (some (b, s, T)) H H' := fun a o n h => k a o (fun z => n (.inl z)) h
theorem tabs_keep {b s : Addr} {T : List (Addr × Str)} {H H' : Hp} (B : Bag b s H) (t : LamX.Tabs T H) (k : RK.Keep b H H') : LamX.Tabs T H' := fun p hp => by
  obtain ⟨ys, hb⟩ := B.hb
  obtain ⟨ps, h1, h2, h3⟩ := t p hp
  refine ⟨ps, k _ _ (fun z => by rw [z, hb] at h1; cases h1) h1, h2, fun pos cv hc => ?_⟩
  obtain ⟨c, e, hcd⟩ := h3 pos cv hc
  exact ⟨c, e, k _ _ (fun z => by rw [z, hb] at hcd; cases hcd) hcd⟩
theorem bag_arg {N : Addr → Prop} {W : Wd} {H : Hp} {v : V} (h : Dd K N W H v .bag) : ∃ b s T, W = some (b, s, T) ∧ v = .ref b := by
  cases h with | bag e => exact ⟨_, _, _, e, rfl⟩
theorem pull_d (h : FnOk P w K mg base CX k f fd ps spPull) : FnOk P w K mg base CX k f fd ps (lSp K false sp_pull) := h.imp fun vs H Q E ⟨W, N0, ds, Pd, al, wn, ok, dd, ⟨n, e, h1, h2, h3⟩, q⟩ => by
  subst e
  cases dd with | cons d1 dd => cases dd with | cons d2 dd =>
    cases dd
    obtain ⟨b, s, T, rfl, rfl⟩ := bag_arg d1
    have := dd_intE d2
    subst this
    exact ⟨b, s, n, rfl, ok.1, h1, h2, fun r H' r0 r1 k B => q _ _ H' (h3 r r0 r1) (keepW_of k.f) ⟨B, tabs_keep ok.1 ok.2.1 k.f, fun ne a ps h => let ⟨qs, q⟩ := k.n a ps h; ok.2.2 ne a qs q⟩ (.int r) ⟨fun z => (by cases z), fun j z => (by cases z), fun z => by cases z⟩⟩
end
end DL
namespace DL
open PySem PySem.Spec PyProof.Rows L2 RK
def st (n : Nat) (ds : List D) : De := ds.map En.fz ++ List.replicate (n - ds.length) En.no
def kwP (π : List Nat) (xs : List D) : List D := π.map fun i => xs.getD i .non
def dCallK (sp : DSp) (π : List Nat) (ds : TDA) : TDE := fun env P => ds env fun xs => xs.length = π.length ∧ sp (kwP π xs) P
section
variable {X : Cx} {F : Fx} {dk : TDA} {pos p : Pos} {CX : CXT} {k : Nat} {f : Addr} {fd : FuncData} {ps ks : List Str} {sp : DSp} {E : XK} {x : Str} {fr : Fr} {K : PySem.W.Frag}
theorem dd_callKP {g : List Value → List Value → List Value} {gV : List V → List V → List V} {π : List Nat} {kws : List Keyword} (G : FnOk X.prog X.w X.K X.mg X.base CX k f fd ps (lSp K fr sp)) (hr : Room k X.A) (hg : Gl X x) (hm : X.mg x = some (.ref f)) (hk : PySem.W.keepIn X.K (.ref f) = true) (hb : KBinds X.K fd ps ks g gV) (hx : Passes CX X E) (hkw : PK X kws (lA F dk))
    (hD : ∀ {K : PySem.W.Frag} {N : Addr → Prop} {W : Wd} {H : Hp} {zs : List V} {es : List D}, DdAll K N W H zs es → es.length = π.length → DdAll K N W H (gV [] zs) (kwP π es)) (hK : F.K = K := by rfl)
    (hall : (backToKw pos (keywordEach kws X.env)).all (·.1.isSome) = true := by rfl) (hks : (backToKw pos (keywordEach kws X.env)).filterMap (·.1) = ks := by rfl) (hdb : (x == ("__debug__" : Str)) = false := by decide)
    (hpl : ((backTo pos (starEach [] X.env)).any (·.1) || (backToKw pos (keywordEach kws X.env)).any (·.1.isNone)) = false := by rfl) :
    PE X (.Call (.Name x p) [] kws pos) (lC F (dCallK sp π dk)) := PE.mono (pe_callK0 G hr hg hm hk hb hx hkw hall hks hdb hpl) fun σ H Q ⟨env, L, P, A, pp, q⟩ => by
  subst hK
  exact ⟨env, L, _, A, pp, fun xs vs H1 px k1 o1 d1 => ⟨F.W, F.N L, kwP π xs, P, fun a h => (A.step k1 o1).alN h, fun a h => .inl (A.wn a h), o1, hD d1 px.1, px.2, fun x v H2 p2 k2 o2 d2 _ => q x v H2 p2 (k1.trans k2) o2 d2⟩⟩
end
section
variable {F : Fx} {env : De} {σ : L2.St} {L : List Addr} {H H' : Hp}
end
theorem pss_ex {X : Cx} {K : PySem.W.Frag} {sts : List Stmt} {d : TDS} (h : ∀ W N0 H0, PSs X sts (lS ⟨K, W, N0, H0, false⟩ d)) : PSs X sts (fun E σ H => ∃ W N0 H0, lS ⟨K, W, N0, H0, false⟩ d E σ H) := ⟨fun pins s σ H E I ⟨W, N0, H0, q⟩ => (h W N0 H0).run pins s σ H E I q⟩
def spLaw (K : PySem.W.Frag) : Sp := fun vs H Q _ => ∃ (a : Addr) (ns : List Int), vs = [.ref a] ∧ SqL K H a (ns.map V.int) ∧ ns.length ≤ 63 ∧ ∀ H', Q (.bl true) H'
theorem so_law {n : Nat} {σ : L2.St} : SoP (.no :: .fz .bag :: List.replicate n .no) σ := fun i e b h hb => by
  exfalso
  match i, h with
  | 0, h => cases h; cases hb
  | 1, h => cases h; cases hb
  | i + 2, h =>
    rw [List.getElem?_cons_succ, List.getElem?_cons_succ] at h
    rw [(List.mem_replicate.mp (List.mem_of_getElem? h)).2] at hb
    cases hb
theorem law_bag {K : PySem.W.Frag} {Q : VK} {d : TDS} {H H' : Hp} {a b s : Addr} {n : Nat} (e : Same H H') (nb : H b = none) (B : Bag b s H') (q : ∀ H', Q (.bl true) H') (h : d { nx := fun _ => False, rt := fun x => x = .bl true } (.no :: .fz .bag :: List.replicate n .no)) :
    ∃ W N0 H0, lS ⟨K, W, N0, H0, false⟩ d { nx := fun _ H' => Q .non H', rt := Q } (some (.ref a) :: some (.ref b) :: List.replicate n none) H' := by
  refine ⟨some (b, s, []), fun z => z = b ∨ z = s, H', _, [], _, ?_, h, fun _ _ _ _ z => z.elim, fun x v H2 hx r => ?_, fun _ _ _ _ z => z.elim, fun _ _ _ _ z => z.elim⟩
  · obtain ⟨yb, hb⟩ := B.hb
    obtain ⟨ys, hs⟩ := B.hs
    refine ⟨⟨B, (fun p hp => by cases hp), fun ne => absurd rfl ne⟩, fun z hz => ?_, fun z hz => hz.imp id fun hz => hz.resolve_right fun ⟨p, hp, _⟩ => (by cases hp), .refl _ _, fun z hz => (by cases hz), ?_, fun i j z ei ej h1 h2 o1 o2 _ _ => ?_, so_law, fun i e x h1 h2 => ?_⟩
    · rcases hz with rfl | rfl
      · exact ⟨⟨.lst yb, True.intro⟩, hb⟩
      · exact ⟨⟨.lst ys, True.intro⟩, hs⟩
    · simp
    · exfalso
      match i, h1 with
      | 0, h1 => cases h1; cases o1
      | 1, h1 => cases h1; cases o1
      | i + 2, h1 =>
        rw [List.getElem?_cons_succ, List.getElem?_cons_succ] at h1
        rw [(List.mem_replicate.mp (List.mem_of_getElem? h1)).2] at o1
        cases o1
    · match i, h1, h2 with
      | 0, h1, h2 => cases h1; trivial
      | 1, h1, h2 =>
        cases h1
        cases h2
        exact .bag rfl
      | i + 2, h1, h2 =>
        rw [List.getElem?_cons_succ, List.getElem?_cons_succ] at h1
        rw [(List.mem_replicate.mp (List.mem_of_getElem? h1)).2]
        trivial
  · subst hx
    have := dd_blE r.dd
    subst this
    exact q H2
end DL
namespace RK
open PySem PySem.Spec PyProof.Rows L2
open PySem.Sem (wp)
abbrev enT1 (l : Addr) : Obj := { cls := .type "tuple_iterator", data := .fields #[.ref l, .int 0 0] }
abbrev enT2 (n : Addr) : Obj := { cls := .type "enumerate", data := .fields #[.none, .bool false, .ref n, rawInt 0, .none, .none] }
end RK
namespace DL
open PySem PySem.Spec PyProof.Rows L2 RK
section
variable {X : Cx} {F : Fx} {e a b c tg iter : Expr} {es : List Expr} {d da db dc : TDE} {ds : TDA} {pos p : Pos} {i j l : Nat}
abbrev SP := Str × Str
end
end DL
namespace DL
open PySem PySem.Spec PyProof.Rows L2 RK
section
variable {X : Cx} {F : Fx} {e a b c tg iter : Expr} {es : List Expr} {d da db dc : TDE} {ds : TDA} {pos p : Pos} {i j l : Nat}
end
end DL
namespace DL
open PySem PySem.Spec PyProof.Rows L2 RK
section
variable {X : Cx} {F : Fx} {e o a b : Expr} {d : TDE} {pos apos cpos : Pos} {i : Nat}
end
end DL
namespace DL
open PySem PySem.Spec PyProof.Rows L2 RK
section
variable {X : Cx}
abbrev oneGen (tg iter : Expr) (ifs : List Expr) : List Comprehension := [⟨tg, iter, ifs, 0⟩]
end
end DL
namespace DL
open PySem PySem.Spec PyProof.Rows L2 RK
section
variable {X : Cx} {F : Fx} {e a b c o : Expr} {es : List Expr} {d da db dc : TDE} {ds : TDA} {pos p apos : Pos}
end
end DL
namespace DL
open PySem PySem.Spec PyProof.Rows L2 RK
section
variable {X : Cx} {F : Fx} {e a b c o : Expr} {es : List Expr} {d da db dc : TDE} {ds : TDA} {pos p apos : Pos}
end
section
variable {X : Cx} {F : Fx} {e : Expr} {d : TDE} {pos p : Pos} {k : Nat}
end
end DL
namespace RK
open PySem PySem.Spec PyProof.Rows L2
def metK (val : Nat → Key) (i : Nat) (k : Key) : Bool := (List.range i).any fun j => decide (val j = k)
def cntK (val : Nat → Key) : Nat → Nat
  | 0 => 0
  | i + 1 => if metK val i (val i) = true then cntK val i else cntK val i + 1
theorem cntK_le (val : Nat → Key) : ∀ i, cntK val i ≤ i
  | 0 => Nat.le_refl _
  | i + 1 => by
    have := cntK_le val i
    rw [cntK]
    split <;> omega
theorem metK_succ (val : Nat → Key) (i : Nat) (k : Key) : metK val (i + 1) k = (metK val i k || decide (k = val i)) := by
  unfold metK
  rw [List.range_succ, List.any_append, List.any_cons, List.any_nil, Bool.or_false]
  congr 1
  exact decide_eq_decide.mpr eq_comm
section
variable {prog : Program} {w : World} {A : Around} {R : Result → Shared → Prop} {I S : Addr} {fp wr : List Addr} {G : Array GenState → Array GenState → Prop} {n : Nat} {P : Nat → Value → Prop} {St : Nat → Shared → Prop}
theorem keep_set {h z : Heap} {S' : Key → Bool} {c : Nat} (q : h.SetOf (mixKind prog w) S S' c) (k : ∀ o, h.get? S = some o → z.get? S = some o) : z.SetOf (mixKind prog w) S S' c := by
  obtain ⟨o, es, ep, t, ho, r⟩ := q
  exact ⟨o, es, ep, t, k o ho, r⟩
theorem set_go (W : WalksS prog w A.in1 I fp wr G n P St) (out : S ∉ fp) {val : Nat → Key} (hv : ∀ i v, P i v → (mixKind prog w).is (val i) v = true ∧ v.scannable = true) (room : n + 1 < scanBound) :
    ∀ (m i : Nat) (s : Shared), n = i + m → St i s → s.heap.SetOf (mixKind prog w) S (metK val i) (cntK val i) → (∀ z, Moved (S :: wr) G s z → z.heap.SetOf (mixKind prog w) S (metK val n) (cntK val n) → R (.ok (.ret .none)) z) →
      codeAny (model prog w) A (.builtin "set.update.loop" ⟨[.ref S, .ref I], []⟩) R s := by
  have nw : S ∉ wr := fun z => out (W.sub _ z)
  have up : ∀ b ∈ wr, b ∈ S :: wr := fun b z => List.mem_cons_of_mem _ z
  intro m
  induction m with
  | zero =>
    intro i s e st q fin
    have e : n = i := by omega
    subst e
    refine codeAny_builtin (by exact F.entry_set_update_loop) ?_
    rw [Around.under_plainId (by exact F.plain_set_update_loop)]
    refine wpAny_bind (W.done s _ _ st fun z mv => wpAny_pure (fin z (mv.mono up) (keep_set q fun o ho => mv.heap S _ nw ho)))
  | succ m go =>
    intro i s e st q fin
    refine codeAny_builtin (by exact F.entry_set_update_loop) ?_
    rw [Around.under_plainId (by exact F.plain_set_update_loop)]
    refine wpAny_bind (W.item i s _ _ (by omega) st fun v z hP st2 mv => ?_)
    obtain ⟨hk, hs⟩ := hv i v hP
    have q2 := keep_set q (z := z.heap) fun o ho => mv.heap S _ nw ho
    refine wpAny_bind (wpAny_holding ?_)
    unfold setAdd
    refine wpAny_holding (wpAny_bind ((mixKind prog w).pyHash hk ?_))
    refine wpAny_setAddHashed_of (s := { z with toks := z.toks + 1 }) hk hs q2 (by have := cntK_le val i; omega) fun g sb q3 => ?_
    have q4 : g.SetOf (mixKind prog w) S (metK val (i + 1)) (cntK val (i + 1)) := by
      have e1 : (fun k => metK val i k || decide (k = val i)) = metK val (i + 1) := funext fun k => (metK_succ val i k).symm
      rw [e1] at q3
      rw [cntK]
      exact q3
    refine wpAny_pure ⟨plainId_quiet (by exact F.plain_set_update_loop) _, go (i + 1) _ (by omega) (W.frame _ z _ _ st2 (Nat.le_succ _) fun b hb o eb => ?_) q4 fun y my qy => fin y ?_ qy⟩
    · rw [sb.2 b fun x => out (x ▸ hb)]
      exact eb
    · refine Moved.trans W.gtrans ((mv.mono up).then_heap (Nat.le_succ _) fun b o hb eb => ?_) my
      rw [sb.2 b fun x => hb (x ▸ List.mem_cons_self)]
      exact eb
end
section
variable {prog : Program} {w : World} {A : Around} {E : Value → Shared → Prop} {s : Shared}
def newSet (led : Bool) : Obj := { cls := .type "set", dict := none, data := .set #[] 0 (.fresh 0 0 led) }
theorem set_made {x : Value} {Q : Value → Shared → Prop} (K : Shared → Prop) (fin : ∀ z, K z → Q (.ref s.heap.objs.size) z)
    (go : ∀ led : Bool, wpAny (model prog w) A.in1.in1 (Builtin.«set.__init__» ⟨[.ref s.heap.objs.size, x], []⟩) (fun f z => match f with | .done f => wants (fun r y => r = Value.none ∧ K y) E (.ok f) z | .again c => c.quiet = true ∧ codeAny (model prog w) A.in1 c (wants (fun r y => r = Value.none ∧ K y) E) z) (fun e z => wants (fun r y => r = Value.none ∧ K y) E (.error e) z) { s with heap := s.heap.push (newSet led) }) :
    wpAny (model prog w) A (call (.type "set") [x]) Q E s := by
  have a1 := PySem.F.called_set.made
  have a2 := PySem.F.called_set.sub
  obtain ⟨c, tl, a3⟩ := PySem.F.called_set.mro
  refine wpAny_call (codeAny_of_tree (wpAny_pure ⟨Code.quiet_builtin _ (by decide +kernel), codeAny_builtin (by exact PySem.F.entry_type_call) ?_⟩))
  rw [Around.under_plain (weight_type_call_type "set" [x] []) rfl]
  have a4 := PySem.F.called_set.notType
  have a5 := PySem.F.called_set.canCreate
  have a6 := PySem.F.typeCall_set_1 x
  repeat (any_goals (first | assumption | wp_step))
  refine codeAny_mono (code_set_new_1 x (E := E) (Q₁ := fun v z => v = .ref s.heap.objs.size ∧ ∃ led : Bool, z = { s with heap := s.heap.push (newSet led) }) fun led => ⟨rfl, led, rfl⟩) fun r z hr => ?_
  cases r with
  | error e => exact hr
  | ok f =>
    cases f with
    | ret v =>
      obtain ⟨rfl, led, rfl⟩ := hr
      have b1 : (s.heap.push (newSet led)).get? s.heap.objs.size = some (newSet led) := Heap.get?_push_size _ rfl
      have b2 : Shared.TypeIs { s with heap := s.heap.push (newSet led) } (.ref s.heap.objs.size) "set" := ⟨_, b1, rfl⟩
      have b3 := PySem.F.called_set.init.lookup
      have b4 := PySem.F.called_set.init.bind (.ref s.heap.objs.size)
      repeat (any_goals (first | assumption | wp_step))
      refine codeAny_mono (codeAny_call_builtin (R := wants (fun r y => r = .none ∧ K y) E) PySem.F.called_set.init.plain PySem.F.entry_set_init (check_set_init_1 b2 ?_)) fun r y hy => ?_
      · exact go led
      · cases r with
        | error e => exact hy
        | ok f =>
          cases f with
          | ret v =>
            obtain ⟨rfl, ky⟩ := hy
            repeat (any_goals (first | assumption | wp_step))
            exact fin _ ky
          | _ => exact hy.elim
    | _ => exact hr.elim
def SetMade (prog : Program) (w : World) (s : Shared) (val : Nat → Key) (n : Nat) (z : Shared) : Prop :=
  ∃ g tk, z = { s with heap := g, toks := tk } ∧ g.SetOf (mixKind prog w) s.heap.objs.size (metK val n) (cntK val n) ∧ ∀ b o, s.heap.get? b = some o → g.get? b = some o
theorem fresh_set (led : Bool) {h : Heap} {a : Addr} (q : h.get? a = some (newSet led)) (val : Nat → Key) : h.SetOf (mixKind prog w) a (metK val 0) (cntK val 0) := by
  exact ⟨_, #[], 0, _, q, ⟨rfl, rfl, rfl⟩, rfl, fun e he => (by simp at he), fun k => (by simp [metK]), (by decide), (by rfl), rfl⟩
theorem set_end {wr : List Addr} {val : Nat → Key} {n : Nat} {led : Bool} {ob : Obj} {z : Shared} (mv : Moved (s.heap.objs.size :: [(s.heap.push (newSet led)).objs.size]) (fun a b => b = a) { s with heap := (s.heap.push (newSet led)).push ob } z) (q : z.heap.SetOf (mixKind prog w) s.heap.objs.size (metK val n) (cntK val n)) : SetMade prog w s val n z := by
  obtain ⟨g, a, b, c, d⟩ := z
  obtain rfl : a = s.gens := mv.gens
  obtain rfl : b = s.drawn := mv.drawn
  obtain rfl : d = s.os := mv.os
  refine ⟨g, c, rfl, q, fun x o e => mv.heap x o (fun hx => ?_) (Heap.get?_push_of_some _ (Heap.get?_push_of_some _ e))⟩
  have lt := Heap.lt_size e
  rw [Heap.size_push] at hx
  simp only [List.mem_cons, List.not_mem_nil, or_false] at hx
  rcases hx with hx | hx
  · exact absurd lt (hx ▸ Nat.lt_irrefl _)
  · exact absurd lt (hx ▸ Nat.not_lt.mpr (Nat.le_succ _))
theorem apart (led : Bool) {l : Addr} (lt : l < s.heap.objs.size) : s.heap.objs.size ∉ [(s.heap.push (newSet led)).objs.size, l] := fun z => by
  rw [Heap.size_push] at z
  rcases List.mem_cons.mp z with z | z
  · exact Nat.ne_of_lt (Nat.lt_succ_self _) z
  · exact Nat.ne_of_gt lt (List.mem_singleton.mp z)
theorem set_list {l : Addr} {items : Array Value} {val : Nat → Key} {Q : Value → Shared → Prop} (hh : A.handled = none) (hl : s.heap.IsList l items) (hv : ∀ i v, items[i]? = some v → (mixKind prog w).is (val i) v = true ∧ v.scannable = true) (room : items.size + 1 < scanBound)
    (h : ∀ z, SetMade prog w s val items.size z → Q (.ref s.heap.objs.size) z) : wpAny (model prog w) A (call (.type "set") [.ref l]) Q E s := by
  refine set_made (SetMade prog w s val items.size) h fun led => ?_
  obtain ⟨⟨k1, k2, k3, k4⟩, c1, c2, c4, c5⟩ := hl
  simp only at c2 c5
  subst c2 c5
  have d1 : (s.heap.push (newSet led)).get? l = some { cls := .type "list", dict := k2, data := .seq items c4, slots := k4 } := Heap.get?_push_of_some _ c1
  have d2 := PySem.F.sub_list_set
  have d3 := PySem.F.sub_list_frozenset
  have d4 : (Value.type "list" == Value.type "dict") = false := by decide
  have d5 : (s.heap.push (newSet led)).IsList l items := ⟨_, d1, rfl, c4, rfl⟩
  unfold Builtin.«set.__init__» noKeywords Builtin.Frozenset.updateFrom
  generalize hPI : pyIter = PI
  wp_walk
  subst hPI
  have lt : l < s.heap.objs.size := Heap.lt_size c1
  refine wpAny_pyIter_list d5 (wpAny_bind (wpAny_runValue (set_go ((Walks.list (by simp [hh]) _ l (by rw [Heap.size_push]; exact Nat.ne_of_lt (Nat.lt_succ_of_lt lt)) items).toS) (apart led lt) hv room items.size 0 _ (by omega) ⟨⟨_, Heap.get?_push_size _ rfl, rfl, rfl⟩, d5.push _⟩ ?_ fun z mv q => ?_)))
  · exact fresh_set led (Heap.get?_push_of_some _ (Heap.get?_push_size _ rfl)) val
  · exact wpAny_pure (wpAny_pure ⟨rfl, set_end (wr := []) mv q⟩)
def keyAt (ks : List Key) (i : Nat) : Key := ks.getD i (.inl 0)
def cntL (ks : List Key) : Nat := cntK (keyAt ks) ks.length
end
theorem cntL_le (ks : List Key) : cntL ks ≤ ks.length := cntK_le _ _
end RK
namespace PySem
namespace SplatX
open PySem.Spec PyProof.Rows
section
variable {prog : Program} {w : World} {K : Type} [DecidableEq K] {knd : KeyKind prog w K} {A : Around} {E : Value → Shared → Prop} {s : Shared}
end
end SplatX
end PySem
namespace RK
open PySem PySem.Spec PyProof.Rows L2
end RK
namespace DL
open PySem PySem.Spec PyProof.Rows L2 RK
section
variable {X : Cx} {F : Fx} {e a b c e1 e2 k0 : Expr} {es : List Expr} {d da db dc d1 d2 dk : TDE} {ds : TDA} {pos p p2 q0 : Pos}
theorem c_liftK {x : D} {v : V} {K : PySem.W.Frag} (h : PE X e (tC v)) (r : ∀ N W H, Dd K N W H v x) (hK : F.K = K := by rfl) : PE X e (lC F (dC x)) := PE.mono h fun σ H Q ⟨env, L, P, A, p, q⟩ => q x v H p (.refl _ _) A.ok (by rw [hK]; exact r _ _ _)
end
end DL
namespace DL
open PySem PySem.Spec PyProof.Rows L2 RK
def dIn (g : TDG) (tt : TDT) (te : TDE) (k : List D → Prop) (env : De) : List D → List D → Prop
  | [], acc => k acc
  | x :: xs, acc => g x env fun env' => tt env' fun b => if b = true then te env' fun y => acc.length < sizeLine ∧ dIn g tt te k env xs (acc ++ [y]) else dIn g tt te k env xs acc
def dComp2 (g : TDG) (tt : TDT) (it1 : TDI) (g1 : TDG) (tt1 : TDT) (te : TDE) (vs1 : List Nat) (P : D → Prop) (env : De) : List D → List D → Prop
  | [], acc => P (.lst acc)
  | x :: xs, acc => g x env fun env' => tt env' fun b => if b = true then it1 env' fun ys => dIn g1 tt1 te (fun acc' => dComp2 g tt it1 g1 tt1 te vs1 P env xs acc') (wipeE env' vs1) ys acc else dComp2 g tt it1 g1 tt1 te vs1 P env xs acc
def dLc2 (it : TDI) (g : TDG) (tt : TDT) (it1 : TDI) (g1 : TDG) (tt1 : TDT) (te : TDE) (vs vs1 : List Nat) : TDE := fun env P => it env fun xs => dComp2 g tt it1 g1 tt1 te vs1 P (wipeE env vs) xs []
section
variable {X : Cx} {F : Fx}
theorem lone_setN {env : De} {σ : L2.St} {a : Addr} (h : Lone env σ a) (i : Nat) (l : env.length = σ.length) : Lone (env.set i .no) (σ.set i none) a := ⟨fun j ej h1 h2 h3 => (by
  by_cases hj : i = j
  · subst hj
    by_cases hi : i < env.length
    · rw [List.getElem?_set_self hi] at h1
      cases h1
      cases h2
    · rw [List.getElem?_eq_none (by rw [List.length_set]; omega)] at h1
      cases h1
  · rw [List.getElem?_set_ne hj] at h1 h3
    exact h.1 j ej h1 h2 h3), fun j ej hj => by
  rcases get_set hj with ⟨_, rfl, _⟩ | ⟨_, hj2⟩
  · exact fun z => by cases z
  · exact h.2 j ej hj2⟩
theorem wipe_len {env : De} : ∀ vs : List Nat, (wipeE env vs).length = env.length
  | [] => rfl
  | v :: vs => by
    show ((wipeE env vs).set v .no).length = _
    rw [List.length_set, wipe_len vs]
theorem lone_wipe {env : De} {σ : L2.St} {a : Addr} (h : Lone env σ a) (l : env.length = σ.length) : ∀ vs : List Nat, Lone (wipeE env vs) (wipe σ vs) a
  | [] => h
  | v :: vs => lone_setN (lone_wipe h l vs) v (by rw [wipe_len, wipe_length]; exact l)
theorem l_lc2 {S vs S1 vs1 : List Nat} {it it1 : TDI} {g g1 : TDG} {tt tt1 : TDT} {te : TDE} (hS : ∀ i ∈ S, i ∈ vs) (hS1 : ∀ i ∈ S1, i ∈ vs1) : ∀ σ H Q, lN F (dLc2 it g tt it1 g1 tt1 te vs vs1) σ H Q → tLc2 (lIb F it) (lG F S g) (lT F tt) (lI F it1) (lG F S1 g1) (lT F tt1) (lC F te) vs vs1 σ H Q := fun σ H Q ⟨env, L, P, A, pp, q⟩ =>
  ⟨env, L, _, A, pp, fun xs J H1 px k1 o1 ok T nD => by
    have A1 := A.step k1 o1
    have lo : Lone (wipeE env vs) (wipe σ vs) T := (A1.wipe vs).lone nD
    have B0 : Abs F (wipeE env vs) (wipe σ vs) (T :: L) (upd H1 T (.lst [])) := (A1.wipe vs).hold (x := .lst []) (.new nD) (ok_new o1 nD) nD ⟨[], upd_same, .nil⟩
    let Z : (List D → Prop) → Hp → Prop := fun lp H' => ∃ acc us, Abs F (wipeE env vs) (wipe σ vs) (T :: L) H' ∧ (∀ a o, ¬ F.W.own a → H1 a = some o → H' a = some o) ∧ H' T = some (.lst us) ∧ DdAll F.K (F.N (T :: L)) F.W H' us acc ∧ lp acc
    refine ⟨fun i m H' => Z (fun acc => dComp2 g tt it1 g1 tt1 te vs1 P (wipeE env vs) (xs.drop i) acc) H' ∧ i ≤ xs.length ∧ m = xs.length - i,
      ⟨_, ⟨[], [], B0, fun a o _ h => by rw [upd_ne (ne_of_none h nD)]; exact h, upd_same, .nil, px⟩, Nat.zero_le _, rfl⟩, ?_⟩
    rintro i m H' ⟨⟨acc, us, B, kk, hD, hu, lp⟩, hi, rfl⟩
    obtain ⟨st, go⟩ := ok (F.N (T :: L)) H' (fun a o n h => ⟨fun nn z => by
      rcases z with z | z
      · exact nn (.inl z)
      · rcases List.mem_cons.mp z with z | z
        · rw [z, nD] at h
          cases h
        · exact nn (.inr z), kk a o n h⟩) (fun a h => B.alO h) i
    by_cases hlt : i < xs.length
    · obtain ⟨g1', g2⟩ := go xs[i] (List.getElem?_eq_getElem hlt)
      rw [List.drop_eq_getElem_cons hlt] at lp
      refine .inr ⟨g1', fun H2 => Z (fun acc => dComp2 g tt it1 g1 tt1 te vs1 P (wipeE env vs) (xs.drop (i + 1)) acc) H2, fun H2 z => ⟨xs.length - (i + 1), by omega, z, hlt, rfl⟩, fun v H2 hy => ?_⟩
      obtain ⟨sm, dd⟩ := g2 v H2 hy
      have B2 := B.step (same_keep sm) (same_ok B.ok sm)
      have nD0 : ¬ F.W.own T := fun z => B.out List.mem_cons_self (B.wn T z)
      refine ⟨_, _, _, _, B2, dd, lp, fun env3 σ3 p3 B3 w3 n3 => ⟨by rw [w3 vs hS]; exact wipe_wipe σ vs, env3, _, _, B3, p3, fun bb H3 p4 k4 o4 => ?_⟩⟩
      have B4 := B3.step k4 o4
      have W4 : Abs F (wipeE env vs) (wipe σ vs) (T :: L) H3 := B2.step k4 o4
      have hD3 : H3 T = some (.lst us) := k4 T _ nD0 (sm T _ hD)
      have hu3 : DdAll F.K (F.N (T :: L)) F.W H3 us acc := B2.kda k4 (B.kda (same_keep sm) hu)
      have kk3 : ∀ a o, ¬ F.W.own a → H1 a = some o → H3 a = some o := fun a o n h => k4 a o n (sm a o (kk a o n h))
      have lo3 : Lone env3 σ3 T := n3 T lo
      cases bb with
      | false => exact iteF ⟨acc, us, W4, kk3, hD3, hu3, p4⟩
      | true =>
        refine iteT ⟨env3, _, _, B4, p4, fun ys J1 H4 p5 k5 o5 ok1 => ?_⟩
        have B5 := B4.step k5 o5
        have W5 := W4.step k5 o5
        have loV : Lone (wipeE env3 vs1) (wipe σ3 vs1) T := lone_wipe lo3 B3.ls vs1
        refine ⟨fun jj kx HH => (∃ acc us, Abs F (wipeE env3 vs1) (wipe σ3 vs1) (T :: L) HH ∧ Abs F (wipeE env vs) (wipe σ vs) (T :: L) HH ∧ (∀ a o, ¬ F.W.own a → H1 a = some o → HH a = some o) ∧ (∀ a o, ¬ F.N (T :: L) a → H4 a = some o → HH a = some o) ∧ HH T = some (.lst us) ∧ DdAll F.K (F.N (T :: L)) F.W HH us acc ∧ dIn g1 tt1 te (fun acc' => dComp2 g tt it1 g1 tt1 te vs1 P (wipeE env vs) (xs.drop (i + 1)) acc') (wipeE env3 vs1) (ys.drop jj) acc) ∧ jj ≤ ys.length ∧ kx = ys.length - jj,
          ⟨_, ⟨acc, us, B5.wipe vs1, W5, fun a o n h => k5 a o n (kk3 a o n h), fun _ _ _ h => h, k5 T _ nD0 hD3, W4.kda k5 hu3, p5⟩, Nat.zero_le _, rfl⟩, ?_⟩
        rintro jj kx HH ⟨⟨acc, us, V, Y, kk5, kp5, hT, hu5, lp5⟩, hj, rfl⟩
        obtain ⟨st1, go1⟩ := ok1 (F.N (T :: L)) HH (fun a o n h => ⟨n, kp5 a o n h⟩) (fun a h => V.alO h) jj
        by_cases hlt1 : jj < ys.length
        · obtain ⟨u1, u2⟩ := go1 ys[jj] (List.getElem?_eq_getElem hlt1)
          rw [List.drop_eq_getElem_cons hlt1] at lp5
          refine .inr ⟨u1, fun HH => ∃ acc us, Abs F (wipeE env3 vs1) (wipe σ3 vs1) (T :: L) HH ∧ Abs F (wipeE env vs) (wipe σ vs) (T :: L) HH ∧ (∀ a o, ¬ F.W.own a → H1 a = some o → HH a = some o) ∧ (∀ a o, ¬ F.N (T :: L) a → H4 a = some o → HH a = some o) ∧ HH T = some (.lst us) ∧ DdAll F.K (F.N (T :: L)) F.W HH us acc ∧ dIn g1 tt1 te (fun acc' => dComp2 g tt it1 g1 tt1 te vs1 P (wipeE env vs) (xs.drop (i + 1)) acc') (wipeE env3 vs1) (ys.drop (jj + 1)) acc, fun HH z => ⟨ys.length - (jj + 1), by omega, z, hlt1, rfl⟩, fun v1 H6 hy1 => ?_⟩
          obtain ⟨sm1, dd1⟩ := u2 v1 H6 hy1
          have V2 := V.step (same_keep sm1) (same_ok V.ok sm1)
          have Y2 := Y.step (same_keep sm1) (same_ok Y.ok sm1)
          refine ⟨_, _, _, _, V2, dd1, lp5, fun env7 σ7 p7 V7 w7 _ => ⟨by rw [w7 vs1 hS1]; exact wipe_wipe σ3 vs1, env7, _, _, V7, p7, fun b1 H8 p8 k8 o8 => ?_⟩⟩
          have V8 := V7.step k8 o8
          have U8 : Abs F (wipeE env3 vs1) (wipe σ3 vs1) (T :: L) H8 := V2.step k8 o8
          have Y8 := Y2.step k8 o8
          have hT8 : H8 T = some (.lst us) := k8 T _ nD0 (sm1 T _ hT)
          have hu8 : DdAll F.K (F.N (T :: L)) F.W H8 us acc := V2.kda k8 (V.kda (same_keep sm1) hu5)
          have kk8 : ∀ a o, ¬ F.W.own a → H1 a = some o → H8 a = some o := fun a o n h => k8 a o n (sm1 a o (kk5 a o n h))
          have kp8 : ∀ a o, ¬ F.N (T :: L) a → H4 a = some o → H8 a = some o := fun a o n h => k8 a o (nw_of V n) (sm1 a o (kp5 a o n h))
          cases b1 with
          | false => exact iteF ⟨acc, us, U8, Y8, kk8, kp8, hT8, hu8, p8⟩
          | true =>
            refine iteT ⟨env7, _, _, V8, p8, fun y v' H9 p9 k9 o9 d9 => ?_⟩
            have hT9 : H9 T = some (.lst us) := k9 T _ nD0 hT8
            have hu9 : DdAll F.K (F.N (T :: L)) F.W H9 us acc := U8.kda k9 hu8
            refine ⟨us, hT9, by rw [hu9.len]; exact p9.1, acc ++ [y], us ++ [v'], (U8.step k9 o9).poke List.mem_cons_self loV, (Y8.step k9 o9).poke List.mem_cons_self lo, fun a o n h => ?_, fun a o n h => ?_, upd_same, (hu9.app (.cons d9 .nil)).keep (fun x u q h => ?_) (fun _ z => z), p9.2⟩
            · rw [upd_ne (ne_of_none h nD)]
              exact k9 a o n (kk8 a o n h)
            · have ne : a ≠ T := fun z => n (.inr (by rw [z]; exact List.mem_cons_self))
              rw [upd_ne ne]
              exact k9 a o (nw_of V n) (kp8 a o n h)
            · have ne : x ≠ T := fun z => q (.inr (by rw [z]; exact List.mem_cons_self))
              rw [upd_ne ne]
              exact h
        · have e : ys.drop jj = [] := List.drop_eq_nil_of_le (by omega)
          rw [e] at lp5
          exact .inl ⟨st1 (by omega), acc, us, Y, kk5, hT, hu5, lp5⟩
    · have e : xs.drop i = [] := List.drop_eq_nil_of_le (by omega)
      rw [e] at lp
      exact .inl ⟨st (by omega), q _ T H' lp (k1.trans fun a o n h => kk a o n h) B.ok (free_of k1 o1 nD) ⟨us, hD, hu⟩⟩⟩
end
end DL
namespace DL
open PySem PySem.Spec PyProof.Rows L2 RK
section
variable {X : Cx} {F : Fx} {e : Expr} {d : TDE} {pos p : Pos}
end
end DL
namespace DL
open PySem PySem.Spec PyProof.Rows L2 RK
section
variable {X : Cx} {F : Fx} {e a b : Expr} {d da db : TDE} {pos p : Pos}
end
end DL
namespace DL
open PySem PySem.Spec PyProof.Rows L2 RK
section
variable {X : Cx} {F : Fx} {a b : Expr} {da db : TDE} {pos : Pos}
end
end DL
namespace RK
open PySem PySem.Spec PyProof.Rows L2
def FnAt (P : Program) (w : World) (K : PySem.W.Frag) (mg : Str → Option Value) (base : Heap) (CX : CXT) (A : Around) (f : Addr) (fd : FuncData) (ps : List Str) (sp : Sp) : Prop :=
  ∀ (outer : List Env) (s : Shared) (H : Hp) (args : Args) (us : List Value) (vs : List V) (Q : VK) (E : XK), Env0 P w K mg base A outer s H → BindsTo s fd args (ps.zip us) → Vals vs us → sp vs H Q E → codeAny (model P w) A (.call (.ref f) args) (CR CX outer P w H s Q E) s
variable {P : Program} {w : World} {K : PySem.W.Frag} {mg : Str → Option Value} {base : Heap}
theorem fn_at {CX : CXT} {k : Nat} {f : Addr} {name qual : Str} {params : Arguments} {body : List Stmt} {scope : Scope} {dV kV doc pm cdv ct oc : Value} {an od : Option Addr} {osl : Array (Option Value)} {N ps : List Str} {sp : Sp} {A : Around} (hr : Room (k + 1) A)
    (lk : K.lookup f = some ⟨oc, od, .func (PySem.W.fnOf name qual params body scope dV kV doc pm an cdv ct), osl⟩) (hcd : PySem.W.codeIn K cdv qual = true) (S : FnScope N ps scope) (len : ∀ vs H Q E, sp vs H Q E → vs.length = ps.length)
    (hbody : ∀ (outer : List Env) (s : Shared) (H : Hp) (vs : List V) (Q : VK) (E : XK), sp vs H Q E → ∃ t, PSs (cxOf CX P w K mg base N qual scope f cdv A outer s H E) body t ∧ t { nx := fun _ H' => Q .non H', rt := Q } (start N vs) H) :
    FnAt P w K mg base CX A f (PySem.W.fnOf name qual params body scope dV kV doc pm an cdv ct) ps sp := by
  intro outer s H args us vs Q E e0 hb rv hsp
  have KX : K.In s.heap := e0.mod.kin.keeps fun b o e => (e0.bs b o e).1
  have nl : s.heap.NoLimit := e0.mod.nolimit.keeps fun b o e => (e0.bs b o e).1
  have kinds : ∀ y ∈ ps.zip us, scope.names.lookup y.1 = some .local ∨ (scope.names.lookup y.1 = some .cell ∧ ((cellsFrom (s.heap.objs.size + 1) scope.names []).lookup y.1).isSome = true) := by
    rintro ⟨n, v⟩ hy
    exact (S.par n (List.of_mem_zip hy).1).imp id fun q => ⟨q, PySem.W.cellsFrom_some _ _ _ (.inl q)⟩
  refine codeAny_call_function hr.depth (KX _ _ lk) rfl S.co S.gen rfl (PySem.W.codeRec_of KX hcd) (hb _ _ _ _ (wpAny_newFunctionEnv_cells S.kind kinds fun env he s1 x => ?_))
  cases he
  obtain ⟨t, ht, hq⟩ := hbody outer s H vs Q E hsp
  refine ⟨nl.keeps x.toInCall.keep, codeAny_func (wpAny_mono (ht.run [] s1 (start N vs) H _ (inv_start S hr.hd e0 (len _ _ _ _ hsp) rv x) hq) (fun fl s' hs => ?_) fun e s' hs => hs)⟩
  cases fl with
  | ret u => exact (let ⟨v, _, H', J, rv, q⟩ := hs; ⟨v, H', J.os, J.bare, J.base, J.hok, rv, q⟩)
  | next => exact (let ⟨_, H', J, q⟩ := hs; ⟨V.non, H', J.os, J.bare, J.base, J.hok, rfl, q⟩)
  | brk => exact (let ⟨_, _, _, q⟩ := hs; False.elim q)
  | cont => exact (let ⟨_, _, _, q⟩ := hs; False.elim q)
theorem law_core {mb : Str → Option Value} {CX : CXT} {fa a : Addr} {fd : FuncData} {x : Str} {sp : Sp} {s1 : Shared} {vs : List Value} {H : Hp}
    (KX : K.In s1.heap) (hns : s1.heap.Ns mainGlobals mg) (hb : s1.heap.Ns builtinsNs mb) (hbb : ∀ x : Str, x ≠ "__name__" → mb x = bootBuiltins x) (hlim : s1.heap.NoLimit) (hg : s1.gens = #[])
    (ha : s1.heap.get? a = some { cls := .type "list", data := .seq vs.toArray }) (F : ∀ bs : Heap, K.In bs → bs.Ns mainGlobals mg → FnAt P w K mg bs CX callerA fa fd [x] sp) (hbind : ∀ (s : Shared) (u : Value), BindsTo s fd ⟨[u], []⟩ [(x, u)])
    (hCX : ∀ H e s', CX [] H s1 (fun _ _ _ => False) e s' → False) (hO : Only H) (hsp : sp [.ref a] H (fun v _ => v = .bl true) fun _ _ _ => False) (hok : HOk P w H s1.heap) (one : ∀ b, H b ≠ none → b = a ∧ K.lookup a = none) :
    codeAny (model P w) callerA (.call (.ref fa) ⟨[.ref a], []⟩) (fun r s' => r = .ok (.ret (.bool true)) ∧ OldK s1.heap s'.heap ∧ s'.os = s1.os ∧ AllBare s'.gens) s1 := by
  have hid : ∀ {b : Addr} {o : Obj}, s1.heap.get? b = some o → (b ≠ a ∨ K.lookup a ≠ none) → (hidT s1.heap H).get? b = some o := fun {b o} e h => hidT_get e (Classical.byContradiction fun z => h.elim (fun n => n (one b z).1) fun n => n (one b z).2)
  have ns : ∀ {b : Addr} {m : Str → Option Value}, s1.heap.Ns b m → (hidT s1.heap H).Ns b m := fun {b m} ⟨o, es, ep, e, d, r⟩ => ⟨o, es, ep, hid e (.inl fun z => by
    rw [z, ha] at e
    cases e
    cases d), d, r⟩
  have kin : K.In (hidT s1.heap H) := fun b o e => hid (KX b o e) (by
    rcases Classical.em (b = a) with z | z
    · exact .inr (by rw [← z, e]; simp)
    · exact .inl z)
  have md : Mod K mg (hidT s1.heap H) := ⟨kin, ns hns, ⟨mb, ns hb, hbb⟩, (let ⟨mc, h1, h2⟩ := hlim; ⟨mc, ns h1, h2⟩)⟩
  have env : Env0 P w K mg (hidT s1.heap H) callerA [] s1 H := { frames := rfl, mod := md, bs := fun b o e => of_hidT e, bsz := Nat.le_of_eq (hidT_size _ _), funs := trivial, frf := fun b hb => (by cases hb), hok := hok, bare := .of_eq hg }
  refine codeAny_mono (F _ kin (ns hns) [] s1 H ⟨[.ref a], []⟩ [.ref a] [.ref a] _ _ env (hbind s1 (.ref a)) (.cons rfl .nil) hsp) fun r s' h => ?_
  match r, h with
  | .error e, h => exact (hCX H e s' h).elim
  | .ok (.ret u), ⟨v, H', os, bare, un, hok', rv, q⟩ =>
    cases (show v = .bl true from q)
    cases (show u = Value.bool true from rv)
    refine ⟨rfl, OldK.of_keep fun b o e => ?_, os, bare⟩
    rcases hO b with z | ⟨ob, xs, z⟩
    · exact un.keep b o e z (fun y => (by cases y)) (by simp)
    · have e1 := (hok b _ z).1
      have e2 := (hok' b _ (un.frzs b ob _ z)).1
      rw [e] at e1
      cases e1
      exact e2
  | .ok .next, h => exact False.elim h
  | .ok .brk, h => exact False.elim h
  | .ok .cont, h => exact False.elim h
theorem law_at {mb : Str → Option Value} {CX : CXT} {fa a : Addr} {fd : FuncData} {x : Str} {sp : Sp} {s1 : Shared} {vs : List Value} {ns : List Int}
    (KX : K.In s1.heap) (hns : s1.heap.Ns mainGlobals mg) (hb : s1.heap.Ns builtinsNs mb) (hbb : ∀ x : Str, x ≠ "__name__" → mb x = bootBuiltins x) (hlim : s1.heap.NoLimit) (hg : s1.gens = #[])
    (ha : s1.heap.get? a = some { cls := .type "list", data := .seq vs.toArray }) (hi : IntsAre vs ns) (hl : ns.length ≤ sizeLine) (F : ∀ bs : Heap, K.In bs → bs.Ns mainGlobals mg → FnAt P w K mg bs CX callerA fa fd [x] sp) (hbind : ∀ (s : Shared) (u : Value), BindsTo s fd ⟨[u], []⟩ [(x, u)])
    (hsp : ∀ H : Hp, Only H → SqL K H a (ns.map V.int) → sp [.ref a] H (fun v _ => v = .bl true) fun _ _ _ => False) (hCX : ∀ H e s', CX [] H s1 (fun _ _ _ => False) e s' → False) :
    codeAny (model P w) callerA (.call (.ref fa) ⟨[.ref a], []⟩) (fun r s' => r = .ok (.ret (.bool true)) ∧ OldK s1.heap s'.heap ∧ s'.os = s1.os ∧ AllBare s'.gens) s1 := by
  have rv := vals_ints hi
  have lv := hi.length
  cases hk : K.lookup a with
  | some o =>
    have e := KX a o hk
    rw [ha] at e
    cases e
    have hO : Only (fun _ => none) := fun _ => .inl rfl
    refine law_core KX hns hb hbb hlim hg ha F hbind hCX hO (hsp _ hO (.inr ⟨_, vs.toArray, _, hk, rfl, rfl, rfl, ?_, ?_⟩)) (fun b u z => by cases z) (fun b z => (z rfl).elim)
    · rw [List.size_toArray, lv]
      exact hl
    · rw [List.toList_toArray]
      exact rv
  | none =>
    let ob : Obj := { cls := .type "list", data := .seq vs.toArray }
    let H : Hp := fun b => if b = a then some (.frz ob (.lst (ns.map V.int))) else none
    have hH : ∀ b, H b = none ∨ (b = a ∧ H b = some (.frz ob (.lst (ns.map V.int)))) := fun b => by
      by_cases h : b = a
      · exact .inr ⟨h, if_pos h⟩
      · exact .inl (if_neg h)
    have hO : Only H := fun b => (hH b).imp id fun h => ⟨_, _, h.2⟩
    refine law_core KX hns hb hbb hlim hg ha F hbind hCX hO (hsp H hO (.inl (.inr ⟨ob, if_pos rfl⟩))) (fun b u z => ?_) (fun b z => ?_)
    · rcases hH b with h | ⟨e, h⟩
      · rw [h] at z
        cases z
      · rw [h] at z
        cases z
        subst e
        exact ⟨ha, by rw [List.length_map]; exact hl, vs, _, rv, ha⟩
    · rcases hH b with h | ⟨e, _⟩
      · exact (z h).elim
      · exact ⟨e, hk⟩
end RK
namespace DL
open PySem PySem.Spec PyProof.Rows L2 RK
section
variable {X : Cx} {F : Fx} {e : Expr} {d : TDE} {pos p : Pos}
def rRepr (K : PySem.W.Frag) : List V → Hp → VK → Prop := fun xs H Q => ∃ (a : Addr) (q : PyData), xs = [.ref a] ∧ Dp K H (.ref a) q ∧ q.showable = true ∧ q.hasDict = false ∧ q.depth ≤ 60 ∧ q.shown.length ≤ sizeLine ∧ Q (.str q.shown) H
theorem call_repr (hg : X.A.guards = some []) (hu : X.A.units + 64 < cLine) : CallR X (.builtin "repr") (rRepr X.K) := by
  intro pins s σ H xs us Q I r h
  obtain ⟨a, q, rfl, hd, h1, h2, h3, h4, hq⟩ := h
  obtain ⟨u, rfl, rx⟩ := vals1 r
  cases rx
  obtain ⟨as, rd⟩ := Dp.reads I q _ _ hd (show RelV (.ref a) (.ref a) from rfl)
  exact repr_of_reads' rd h1 (PyData.noDict_hsm h2) hg (by omega) (fun _ _ e => e) (fun h' u tk hk => ⟨.str q.shown, H, I.kept hk, ⟨_, rfl⟩, hq⟩) h4
end
theorem fun_at {P : Program} {w : World} {K : PySem.W.Frag} {mg : Str → Option Value} {base : Heap} {x qual : Str} {st : Stmt} {f : Addr} {fd : FuncData} {N ps : List Str} {k : Nat} {sp : Sp} {A : Around} (F : Fun K x qual st f fd) (S : FnScope N ps (defScope st)) (hr : Room (k + 1) A) (len : ∀ vs H Q E, sp vs H Q E → vs.length = ps.length)
    (hbody : ∀ (cdv : Value) (outer : List Env) (s : Shared) (H : Hp) (vs : List V) (Q : VK) (E : XK), Room k (A.deeper (envOfC qual (defScope st) s.heap.objs.size f cdv)) → sp vs H Q E → ∃ t, PSs (cxOf CX0 P w K mg base N qual (defScope st) f cdv A outer s H E).nox (defBody st) t ∧ t { nx := fun _ H' => Q .non H', rt := Q } (start N vs) H) : FnAt P w K mg base CX0 A f fd ps sp := by
  obtain ⟨oc, od, kV, doc, pm, an, cdv, ct, osl, rfl, lk, hcd⟩ := F.ex
  refine fn_at hr lk hcd S len fun outer s H vs Q E hsp => ?_
  obtain ⟨t, h, q⟩ := hbody cdv outer s H vs Q E (hr.deeper _) hsp
  exact ⟨t, h.nox, q⟩
end DL
namespace RK
open PySem PySem.Calls PyProof.Rows PyProof.V PySem.Spec PySem.W
section
variable {prog : Program} {w : World} {K : Type} [DecidableEq K] {knd : KeyKind prog w K} {A : Around} {E : Value → Shared → Prop} {s : Shared}
end
end RK
namespace DL
open PySem PySem.Spec PyProof.Rows L2 RK
section
variable {X : Cx} {F : Fx} {e a b : Expr} {d da db : TDE} {pos p : Pos}
end
end DL
namespace RK
open PySem PySem.Spec PyProof.Rows L2
inductive TestOk (X : Cx) : Expr → List Value → Prop
  | one {x : Str} {c : Value} {np : Pos} (hc : L2.Names X x c) : TestOk X (.Name x np) [c]
  | two {x1 x2 : Str} {c1 c2 : Value} {p1 p2 tp : Pos} {kk : Nat} (h1 : L2.Names X x1 c1) (h2 : L2.Names X x2 c2) : TestOk X (.Tuple [.Name x1 p1, .Name x2 p2] kk tp) [c1, c2]
inductive HdsAs (X : Cx) (n : Str) : List ExceptHandler → List (List Value × (Addr → Value → Option Addr → TS)) → Prop
  | nil : HdsAs X n [] []
  | cons {te : Expr} {cs : List Value} {ts : Addr → Value → Option Addr → TS} {b₀ : Stmt} {suite : List Stmt} {pos' : Pos} {hds : List ExceptHandler} {l : List (List Value × (Addr → Value → Option Addr → TS))} (hc : TestOk X te cs)
      (hsu : ∀ (a : Addr) (oe : Obj) (cls : Value) (d : Option Addr) (pn : List (Addr × Obj)), Zc cls d oe → (∃ vs, oe.data = .fields vs) → PSs (X.suite a ((a, oe) :: pn)) (b₀ :: suite) (ts a cls d)) (r : HdsAs X n hds l) :
      HdsAs X n (.ExceptHandler (some te) (some n) (b₀ :: suite) pos' :: hds) ((cs, ts) :: l)
section
variable {X : Cx} {n : Str} {i : Nat} {body : List Stmt} {h₀ : ExceptHandler} {hds : List ExceptHandler} {l : List (List Value × (Addr → Value → Option Addr → TS))} {pos : Pos} {tb : WX → TS} {Wout : WX}
end
end RK
namespace RK
open PySem PySem.Spec PyProof.Rows L2 L2H
abbrev SpP := Addr × Obj → Sp
structure FnP (P : Program) (w : World) (K : PySem.W.Frag) (mg : Str → Option Value) (base : Heap) (CX : CXT) (k : Nat) (f : Addr) (fd : FuncData) (ps : List Str) (sp : SpP) : Prop where
  len : ∀ p vs H Q E, sp p vs H Q E → vs.length = ps.length
  run : ∀ (A : Around) (outer : List Env) (s : Shared) (H : Hp) (args : Args) (us : List Value) (vs : List V) (Q : VK) (E : XK) (p : Addr × Obj), RoomH k A → PinOk outer H s p → Env0 P w K mg base A outer s H → BindsTo s fd args (ps.zip us) → Vals vs us → sp p vs H Q E →
    codeAny (model P w) A (.call (.ref f) args) (CR CX outer P w H s Q E) s
section
variable {X : Cx} {CX : CXT} {k : Nat} {f C : Addr} {fd : FuncData} {ps : List Str} {sp : SpP} {E : XK} {x m : Str} {q pos apos : Pos} {e o : Expr} {es : List Expr} {ta : TE} {t : TA} {p : Addr × Obj}
end
end RK
namespace PySem
namespace OEG
open PySem.W PySem.Calls PyProof.Rows PySem.HandSPX
structure BD where
  B : String
  newId : String
  initId : String
  bm : List Value
structure BD.Ok (b : BD) : Prop where
  F : ExcBaseFacts b.B b.newId b.initId b.bm
  S : StoreFacts b.B b.bm "object.__setattr__" "object"
theorem BD.Ok.ne {b : BD} (o : b.Ok) : b.bm ≠ [] := fun e => by
  have := o.S.hasOwner
  rw [e] at this
  cases this
section
open Builtin Builtin.ObjectAttr
variable {prog : Program} {w : World} {A : Around} {E : Value → Shared → Prop} {R : Result → Shared → Prop} {hp : Heap} {g : Array GenState} {d : Drawn} {t : Nat} {os : OsState}
end
abbrev bdV : BD := ⟨"ValueError", "ValueError.__new__", "ValueError.__init__", [.type "ValueError", .type "Exception", .type "BaseException", .type "object"]⟩
abbrev bdL : BD := ⟨"LookupError", "LookupError.__new__", "LookupError.__init__", [.type "LookupError", .type "Exception", .type "BaseException", .type "object"]⟩
abbrev bdI : BD := ⟨"IndexError", "IndexError.__new__", "IndexError.__init__", [.type "IndexError", .type "LookupError", .type "Exception", .type "BaseException", .type "object"]⟩
theorem okI : bdI.Ok := ⟨F.excBase_IndexError, F.store_IndexError⟩
theorem cls_of {K : W.Frag} {C : Addr} {bmB : List Value} {newId : String} (q : excInitIn K C bmB newId = true) : ∃ nm N qn bs bm hdct sn sub ab col dd k0 k1 k2 k3 k5,
    K.lookup C = some (excClassObj nm qn C N bs bm hdct sn sub ab col dd k0 k1 k2 k3 k5 newId) ∧ excTail bmB bm = true := by
  unfold excInitIn at q
  split at q
  · rename_i dd cd sl ho
    split at q
    · rename_i C' bm k0 k1 k2 k3 n k5 hm hs
      simp only [Bool.and_eq_true, beq_iff_eq, Bool.not_eq_true'] at q
      obtain ⟨⟨⟨rfl, rfl⟩, hdel⟩, ht⟩ := q
      obtain ⟨nm, bs, mro, ns, qn, hd, sn, sub, ab, col, del⟩ := cd
      dsimp only at hm hdel
      subst hm hdel
      have hsl : sl = #[k0, k1, k2, k3, some (.builtin n), k5] := by
        obtain ⟨l⟩ := sl
        simp only at hs
        rw [hs]
      subst hsl
      exact ⟨nm, ns, qn, bs, bm, hd, sn, sub, ab, col, dd, k0, k1, k2, k3, k5, ho, ht⟩
    · cases q
  · cases q
end OEG
end PySem
namespace RK
open PySem PySem.Spec PyProof.Rows L2 PySem.OEG
structure OexG (K : PySem.W.Frag) (C : Addr) (b : BD) : Prop where
  ob : b.Ok
  ini : PySem.W.excInitIn K C b.bm b.newId = true
  hd : PySem.W.hasDictIn K C = true
  sa : PySem.W.findIn K (.ref C) "__setattr__" = some (some (.builtin "object.__setattr__"))
  exC : PySem.W.subIn K (.ref C) (.type "BaseException") = some true
  tyC : PySem.W.typeIn K (.ref C) = some (.type "type")
  kC : PySem.W.keepIn K (.ref C) = true
theorem OexG.cls {K : PySem.W.Frag} {C : Addr} {b : BD} (T : OexG K C b) : ∃ nm q N bs bm sn sub ab col dd k0 k1 k2 k3 k5, K.lookup C = some (excClassObj nm q C N bs bm true sn sub ab col dd k0 k1 k2 k3 k5 b.newId) ∧ PySem.W.excTail b.bm bm = true := by
  obtain ⟨nm, N, qn, bs, bm, hdct, sn, sub, ab, col, dd, k0, k1, k2, k3, k5, hC, ht⟩ := cls_of T.ini
  have h := T.hd
  have e : hdct = true := by
    unfold PySem.W.hasDictIn PySem.W.clsIn at h
    rw [hC] at h
    simpa using h
  subst e
  exact ⟨nm, qn, N, bs, bm, sn, sub, ab, col, dd, k0, k1, k2, k3, k5, hC, ht⟩
section
variable {X : Cx} {pins : List (Addr × Obj)} {σ : L2.St} {H : Hp} {s : Shared} {a C dx : Addr} {f : Str} {y : V} {u : Value} {fs : List (Str × V)} {Q : Unit → Shared → Prop} {E : Value → Shared → Prop} {A : Around} {b : BD}
end
section
variable {X : Cx} {o e : Expr} {es : List Expr} {to te : TE} {ta : TA} {f : Str} {p p' p1 p2 pos : Pos}
end
end RK
namespace RK
open PySem PySem.Spec PyProof.Rows L2 PySem.OEG
structure FunA (K : PySem.W.Frag) (x qual : Str) (st : Stmt) (f : Addr) (fd : FuncData) : Prop where
  ex : ∃ (oc : Value) (od : Option Addr) (dV kV doc pm : Value) (an : Option Addr) (cdv ct : Value) (osl : Array (Option Value)),
    fd = PySem.W.fnOf x qual (defArgs st) (defBody st) (defScope st) dV kV doc pm an cdv ct ∧ K.lookup f = some ⟨oc, od, .func fd, osl⟩ ∧ PySem.W.codeIn K cdv qual = true
  kp : PySem.W.keepIn K (.ref f) = true
theorem FunA.ok {P : Program} {w : World} {K : PySem.W.Frag} {mg : Str → Option Value} {base : Heap} {x qual : Str} {st : Stmt} {f : Addr} {fd : FuncData} {N ps : List Str} {k : Nat} {sp : Sp} (F : FunA K x qual st f fd) (S : FnScope N ps (defScope st)) (len : ∀ vs H Q E, sp vs H Q E → vs.length = ps.length)
    (hbody : ∀ (cdv : Value) (A : Around) (outer : List Env) (s : Shared) (H : Hp) (vs : List V) (Q : VK) (E : XK), Room k (A.deeper (envOfC qual (defScope st) s.heap.objs.size f cdv)) → sp vs H Q E →
      ∃ t, PSs (cxOf CX0 P w K mg base N qual (defScope st) f cdv A outer s H E).nox (defBody st) t ∧ t { nx := fun _ H' => Q .non H', rt := Q } (start N vs) H) : FnOk P w K mg base CX0 (k + 1) f fd ps sp := by
  obtain ⟨oc, od, dV, kV, doc, pm, an, cdv, ct, osl, rfl, lk, hcd⟩ := F.ex
  refine fn_of lk hcd S len fun A outer s H vs Q E hr hsp => ?_
  obtain ⟨t, ht, hq⟩ := hbody cdv A outer s H vs Q E hr hsp
  exact ⟨t, ht.nox, hq⟩
def TxtOk (y : Str) : Prop := y.length ≤ 1000 ∧ ∀ c ∈ y.cps.toList, c < 16 ^ 8
theorem TxtOk.repr {y : Str} (h : TxtOk y) : (reprText y).length ≤ 20000 := by
  have := PySem.StrLaws.reprText_len y h.2
  have := h.1
  omega
end RK
namespace RK
open PySem PySem.Spec PyProof.Rows L2 PySem.OEG
structure WinsW (H : Hp) (ws : List W3) : Prop where
  nd : (Names ws).Nodup
  tx : ∀ w ∈ ws, TxtOk w.1
  at_ : ∀ w ∈ ws, H w.2.1 = some (.tup w.2.2.vs)
theorem WinsW.same {H H' : Hp} {ws : List W3} (W : WinsW H ws) (e : Same H H') : WinsW H' ws := ⟨W.nd, W.tx, fun w hw => e _ _ (W.at_ w hw)⟩
theorem WinsW.perm {H : Hp} {ws us : List W3} (W : WinsW H ws) (p : us.Perm ws) : WinsW H us := ⟨(List.Perm.map (fun x : W3 => x.1) p).nodup_iff.mpr W.nd, fun w hw => W.tx w (p.mem_iff.mp hw), fun w hw => W.at_ w (p.mem_iff.mp hw)⟩
theorem NameOk.txt {z : Str} (h : NameOk z) : TxtOk z := by
  refine ⟨Nat.le_trans h.2.1 (by decide), fun c hc => ?_⟩
  have l := h.2.2 c hc
  unfold Low at l
  have e : (16 : Nat) ^ 8 = 4294967296 := by decide
  omega
theorem Wins.weak {H : Hp} {ws : List W3} (W : Wins H ws) : WinsW H ws := ⟨W.nd, fun w hw => (W.nm w hw).txt, W.at_⟩
theorem WinsW.full {H : Hp} {ws : List W3} (W : WinsW H ws) (n : ∀ w ∈ ws, NameOk w.1) (g : ∀ w ∈ ws, w.2.2.good) : Wins H ws := ⟨W.nd, n, W.at_, g⟩
def errS (z f : Str) (y : V) : List (Str × V) := [(f, y), ("word", .str z)]
def err0 (z : Str) : List (Str × V) := [("word", .str z)]
def ChkX (CS CN CR : Addr) (ws : List W3) (H : Hp) (Q : Hp → Prop) (E : XK) : Prop :=
  (¬ (1 ≤ ws.length ∧ ws.length ≤ 24) → ∀ dx, H dx = none → E (.ref CS) (some dx) (upd H dx (.xd (err0 "BadSize")))) ∧
  (1 ≤ ws.length ∧ ws.length ≤ 24 → ∀ us : List W3, us.Perm ws → sortedS (Names us) = true → ∀ H', Same H H' →
    ((∀ w ∈ us, NameOk w.1) → (∀ w ∈ us, w.2.2.good) → Q H') ∧
    (∀ pre w post, us = pre ++ w :: post → (∀ v ∈ pre, NameOk v.1) → ¬ NameOk w.1 → ∀ dx, H' dx = none → E (.ref CN) (some dx) (upd H' dx (.xd (errS "BadName" "name" (.str w.1))))) ∧
    (∀ pre w post, us = pre ++ w :: post → (∀ v ∈ us, NameOk v.1) → (∀ v ∈ pre, v.2.2.good) → ¬ w.2.2.good → ∀ dx, H' dx = none → E (.ref CR) (some dx) (upd H' dx (.xd (errS "BadRectangle" "name" (.str w.1))))))
theorem ChkX.same {CS CN CR : Addr} {ws : List W3} {H : Hp} {Q Q' : Hp → Prop} {E : XK} (h : ChkX CS CN CR ws H Q E) (k : ∀ H', Same H H' → Q H' → Q' H') : ChkX CS CN CR ws H Q' E :=
  ⟨h.1, fun l us pu so H' s' => ⟨fun n g => k H' s' ((h.2 l us pu so H' s').1 n g), (h.2 l us pu so H' s').2⟩⟩
end RK
namespace DL
open PySem PySem.Spec PyProof.Rows L2 RK
structure Er where
  C : Addr
  w : Str
  f : Option (Str × D)
def lfV : D → V
  | .str x => .str x
  | .int i => .int i
  | .bl b => .bl b
  | _ => .non
def Er.fs (e : Er) : List (Str × V) := match e.f with
  | none => err0 e.w
  | some (f, d) => errS e.w f (lfV d)
abbrev DSpX := List D → (D → Prop) → (Er → Prop) → Prop
def ErOk (F : Fx) (PX : Er → Prop) (E : XK) : Prop := ∀ (e : Er) (dx : Addr) (H' : Hp), PX e → KeepW F.W F.H0 H' → F.W.ok H' → F.H0 dx = none → H' dx = some (.xd e.fs) → E (.ref e.C) (some dx) H'
section
variable {X : Cx} {F : Fx} {e a b c : Expr} {es : List Expr} {d da db dc : TDE} {ds dk : TDA} {pos p : Pos} {PX : Er → Prop}
def dCallX (sp : DSpX) (PX : Er → Prop) (ds : TDA) : TDE := fun env P => ds env fun xs => sp xs P PX
theorem ErOk.up {E : XK} {env : De} {σ : L2.St} {L : List Addr} {H : Hp} {fr : Fr} {N0 : Addr → Prop} (hE : ErOk F PX E) (A : Abs F env σ L H) : ErOk ⟨F.K, F.W, N0, H, fr⟩ PX E := fun er dx H2 pe k2 o2 n2 h2 => hE er dx H2 pe (A.kp.trans k2) o2 (free_of A.kp A.ok n2) h2
variable {CX : CXT} {k : Nat} {f : Addr} {fd : FuncData} {ps ks : List Str} {sp : DSpX} {E : XK} {x : Str} {fr : Fr} {K : PySem.W.Frag}
def sRaise0 (PX : Er → Prop) (C : Addr) (z : Str) : TDS := fun _ _ => PX ⟨C, z, none⟩
def sRaiseI (PX : Er → Prop) (C : Addr) (z f : Str) (d : TDE) : TDS := fun _ env => d env fun x => match x with
  | .int i => i.natAbs < 10 ^ 100 ∧ PX ⟨C, z, some (f, .int i)⟩
  | _ => False
end
end DL
namespace RK
open PySem PySem.Spec PyProof.Rows L2 LamX
section
variable {X : Cx} {pins : List (Addr × Obj)} {σ : L2.St} {H H1 : Hp} {s s1 : Shared}
end
end RK
namespace RK
open PySem PySem.Spec PyProof.Rows L2
def mx (i j : Int) : Int := if j > i then j else i
def mn (i j : Int) : Int := if j < i then j else i
def R.meets (p q : R) : Prop := mx p.l q.l < mn p.r q.r ∧ mx p.t q.t < mn p.b q.b
instance (p q : R) : Decidable (p.meets q) := by unfold R.meets; infer_instance
def ltS (a b : Str) : Bool := decide (a.cps.toList < b.cps.toList)
def TxP (H : Hp) (ts : List Addr) (ps : List (Str × Str)) : Prop := Paired (fun p (z : Str × Str) => H p = some (.tup [.str z.1, .str z.2])) ts ps
theorem TxP.mono {H H' : Hp} (k : ∀ p xs, H p = some (.tup xs) → H' p = some (.tup xs)) : ∀ {ts : List Addr} {ps : List (Str × Str)}, TxP H ts ps → TxP H' ts ps
  | _, _, .nil => .nil
  | _, _, .cons h t => .cons (k _ _ h) (TxP.mono k t)
theorem TxP.append {H : Hp} : ∀ {ts us : List Addr} {ps qs : List (Str × Str)}, TxP H ts ps → TxP H us qs → TxP H (ts ++ us) (ps ++ qs)
  | _, _, _, _, .nil, h => h
  | _, _, _, _, .cons g t, h => .cons g (TxP.append t h)
theorem TxP.len {H : Hp} {ts : List Addr} {ps : List (Str × Str)} (h : TxP H ts ps) : ts.length = ps.length := Paired.length h
theorem TxP.dp {K : PySem.W.Frag} {H : Hp} : ∀ {ts : List Addr} {ps : List (Str × Str)}, TxP H ts ps → DpAll K H (ts.map V.ref) (ps.map fun z => .tuple [.str z.1, .str z.2])
  | _, _, .nil => .nil
  | _, _, .cons h t => .cons (.tup (.inl (.inl h)) (.cons (.str _) (.cons (.str _) .nil))) (TxP.dp t)
inductive Stp where
  | mv (up : Bool) (names : List Str)
  | pl (z : Str) (a : Addr) (r : R)
def wordOf (up : Bool) : Str := if up = true then "raise" else "lower"
def StpAt (H : Hp) (p : Addr) : Stp → Prop
  | .mv up zs => ∃ l, H p = some (.tup [.str (wordOf up), .ref l]) ∧ H l = some (.lst (zs.map V.str))
  | .pl z a r => H p = some (.tup [.str "place", .str z, .ref a]) ∧ H a = some (.tup r.vs)
def Apart (b : Addr) (H : Hp) (p : Addr) : Prop := ∀ w l, H p = some (.tup [.str w, .ref l]) → l ≠ b
theorem StpAt.keep {b s : Addr} {H H' : Hp} {p : Addr} (k : Keep b H H') (B : Bag b s H) (ap : Apart b H p) : ∀ {x : Stp}, StpAt H p x → StpAt H' p x
  | .mv up zs, h => by
    obtain ⟨l, h1, h2⟩ := h
    exact ⟨l, k.of_tup B h1, k _ _ (ap _ _ h1) h2⟩
  | .pl z a r, h => ⟨k.of_tup B h.1, k.of_tup B h.2⟩
theorem StpAt.same {H H' : Hp} {p : Addr} (e : Same H H') : ∀ {x : Stp}, StpAt H p x → StpAt H' p x
  | .mv up zs, h => by
    obtain ⟨l, h1, h2⟩ := h
    exact ⟨l, e _ _ h1, e _ _ h2⟩
  | .pl z a r, h => ⟨e _ _ h.1, e _ _ h.2⟩
theorem StpAt.tup {H : Hp} {p : Addr} : ∀ {x : Stp}, StpAt H p x → ∃ xs, H p = some (.tup xs)
  | .mv up zs, h => by
    obtain ⟨l, h1, _⟩ := h
    exact ⟨_, h1⟩
  | .pl z a r, h => ⟨_, h.1⟩
theorem Apart.keep {b s : Addr} {H H' : Hp} {p : Addr} {xs : List V} (k : Keep b H H') (B : Bag b s H) (hp : H p = some (.tup xs)) (ap : Apart b H p) : Apart b H' p := fun w l h => by
  have := k.of_tup B hp
  rw [this] at h
  have e : xs = [.str w, .ref l] := by
    injection h with h
    injection h
  exact ap w l (e ▸ hp)
theorem Apart.same {b : Addr} {H H' : Hp} {p : Addr} {xs : List V} (e : Same H H') (hp : H p = some (.tup xs)) (ap : Apart b H p) : Apart b H' p := fun w l h => by
  have := e _ _ hp
  rw [this] at h
  have e2 : xs = [.str w, .ref l] := by
    injection h with h
    injection h
  exact ap w l (e2 ▸ hp)
def StpsAt (H : Hp) (ps : List Addr) (xs : List Stp) : Prop := Paired (fun p x => StpAt H p x) ps xs
theorem StpsAt.same {H H' : Hp} (e : Same H H') : ∀ {ps : List Addr} {xs : List Stp}, StpsAt H ps xs → StpsAt H' ps xs
  | _, _, .nil => .nil
  | _, _, .cons h t => .cons (h.same e) (StpsAt.same e t)
theorem StpsAt.snoc {H : Hp} {p : Addr} {x : Stp} (h : StpAt H p x) : ∀ {ps : List Addr} {xs : List Stp}, StpsAt H ps xs → StpsAt H (ps ++ [p]) (xs ++ [x])
  | _, _, .nil => .cons h .nil
  | _, _, .cons g t => .cons g (StpsAt.snoc h t)
theorem StpsAt.len {H : Hp} {ps : List Addr} {xs : List Stp} (h : StpsAt H ps xs) : ps.length = xs.length := Paired.length h
theorem StpsAt.get {H : Hp} : ∀ {ps : List Addr} {xs : List Stp} {i : Nat} {p : Addr}, StpsAt H ps xs → ps[i]? = some p → ∃ x, xs[i]? = some x ∧ StpAt H p x
  | _, _, _, _, .nil, h => by simp at h
  | _, _, 0, _, .cons g _, h => by
    have e := Option.some.inj h
    subst e
    exact ⟨_, rfl, g⟩
  | _, _, i + 1, _, .cons _ t, h => StpsAt.get (i := i) t h
theorem StpsAt.map {H H' : Hp} : ∀ {ps : List Addr} {xs : List Stp}, (∀ p ∈ ps, ∀ x, StpAt H p x → StpAt H' p x) → StpsAt H ps xs → StpsAt H' ps xs
  | _, _, _, .nil => .nil
  | _, _, k, .cons h t => .cons (k _ List.mem_cons_self _ h) (StpsAt.map (fun p hp => k p (List.mem_cons_of_mem _ hp)) t)
end RK
namespace RK
open PySem PySem.Spec PyProof.Rows L2 PySem.OEG
structure Sn (H H' : Hp) : Prop where
  f : Same H H'
  n : NoT H H'
theorem Sn.new {H : Hp} {p : Addr} (h : H p = none) (o : HO) (n : Ntb o := by exact True.intro) : Sn H (upd H p o) := ⟨same_new h o, noT_upd n⟩
theorem Sn.trans {H H1 H2 : Hp} (a : Sn H H1) (b : Sn H1 H2) : Sn H H2 := ⟨a.f.trans b.f, fun x ps h => let ⟨qs, q⟩ := b.n x ps h; a.n x qs q⟩
structure ErrP (K : PySem.W.Frag) (H : Hp) (p : Addr × Obj) (C dd : Addr) (fs : List (Str × V)) (w : Str) : Prop where
  data : ∃ vs, p.2.data = .fields vs
  z : Zc (.ref C) (some dd) p.2
  xf : XfC K C
  nw : PySem.W.findIn K (.ref C) "word" = some none
  hx : H dd = some (.xd fs)
  lw : fs.lookup ("word" : Str) = some (.str w)
theorem ErrP.same {K : PySem.W.Frag} {H H' : Hp} {p : Addr × Obj} {C dd : Addr} {fs : List (Str × V)} {w : Str} (e : ErrP K H p C dd fs w) (s : Same H H') : ErrP K H' p C dd fs w := ⟨e.data, e.z, e.xf, e.nw, s _ _ e.hx, e.lw⟩
def lNam : List Str := ["BadName", "BadRectangle", "BadCost", "Unknown"]
def lAt : List Str := ["BadStep", "BadWish", "BadFact", "BadDeed", "BadText"]
def lStm : List Str := ["Taken", "Clash", "NoStamp"]
def lNum : List Str := ["Full", "NoWatch", "BadPage"]
def fieldName (w : Str) : Option Str := if w ∈ lNam then some "name" else if w ∈ lAt then some "at" else if w ∈ lStm then some "stamp" else if w ∈ lNum then some (if w = "Full" then "most" else if w = "BadPage" then "row" else "number") else none
end RK
namespace DL
open PySem PySem.Spec PyProof.Rows L2 RK LamX
def En.hide : En → En
  | .fz d => .fz d
  | _ => .no
def hideO (env : De) : De := env.map En.hide
section
variable {F : Fx} {env : De} {σ : L2.St} {L : List Addr} {H H' : Hp}
theorem En.hide_ow : ∀ e : En, e.hide.isOw = false
  | .no => rfl
  | .fz _ => rfl
  | .ow _ => rfl
  | .od _ => rfl
  | .ot _ => rfl
  | .oo _ _ _ => rfl
  | .fe _ => rfl
  | .otr _ _ => rfl
theorem n_nil {N : Addr → Prop} {a : Addr} {K : PySem.W.Frag} {W : Wd} {H0 : Hp} {fr : Fr} : Fx.N ⟨K, W, N, H0, fr⟩ [] a ↔ N a := ⟨fun h => h.elim id (fun z => by cases z), fun h => .inl h⟩
theorem Abs.hid (A : Abs F env σ L H) : Abs ⟨F.K, F.W, F.N L, H, false⟩ (hideO env) σ [] H where
  ok := A.ok
  al := fun a h => A.alN h
  wn := fun a h => .inl (A.wn a h)
  kp := .refl _ _
  fr := fun a h => by cases h
  ls := by unfold hideO; rw [List.length_map]; exact A.ls
  sep := fun i j a ei ej h1 _ h3 _ _ _ => by
    unfold hideO at h1
    rw [List.getElem?_map] at h1
    obtain ⟨e, _, rfl⟩ := Option.map_eq_some_iff.mp h1
    rw [En.hide_ow] at h3
    cases h3
  so := fun i e b h hb => by
    unfold hideO at h
    rw [List.getElem?_map] at h
    obtain ⟨e, _, rfl⟩ := Option.map_eq_some_iff.mp h
    cases e <;> cases hb
  en := fun i e x h1 h2 => by
    unfold hideO at h1
    rw [List.getElem?_map] at h1
    obtain ⟨e, he, rfl⟩ := Option.map_eq_some_iff.mp h1
    have h3 := A.en i e x he h2
    cases e with
    | fz d =>
      cases x with
      | none => exact h3.elim
      | some v => exact Dd.keep (fun a o _ h => h) (fun a h => n_nil.mp h) h3
    | _ => exact trivial
abbrev ErCl := List (Addr × Str × Option Str)
def ErCl.has (ec : ErCl) (e : Er) : Prop := (e.C, e.w, e.f.map (·.1)) ∈ ec ∧ ∀ p, e.f = some p → p.2.leaf = true
def Er.val (e : Er) : D := match e.f with | none => .non | some p => p.2
structure ClOk (K : PySem.W.Frag) (CD CM CL : Addr) (k : Addr × Str × Option Str) : Prop where
  xf : XfC K k.1
  nw : PySem.W.findIn K (.ref k.1) "word" = some none
  ct : (PySem.W.exmAny K (.ref k.1) [.ref CD, .ref CM] = some true ∧ fieldName k.2.1 = k.2.2 ∧ ∀ n, k.2.2 = some n → n ≠ "word" ∧ PySem.W.findIn K (.ref k.1) n = some none) ∨
    (PySem.W.exmAny K (.ref k.1) [.ref CD, .ref CM] = some false ∧ PySem.W.exmAny K (.ref k.1) [.ref CL] = some true ∧ k.2.2 = none)
variable {ec : ErCl} {d : (Er → Prop) → TDE} {CD CM CL : Addr} {b s : Addr} {T : List (Addr × Str)}
end
end DL
namespace RK
open PySem PySem.Spec PyProof.Rows L2 LamX
variable {P : Program} {w : World} {K : PySem.W.Frag} {mg : Str → Option Value}
abbrev tab0 : Obj := { cls := .none, data := .fields #[] }
structure OnlyT (cs : List (Addr × Addr)) (H : Hp) : Prop where
  tb : ∀ p ∈ cs, H p.2 = some (.tbl #[])
  on : ∀ b, H b = none ∨ (∃ p ∈ cs, p.2 = b) ∨ ∃ o xs, H b = some (.frz o (.lst xs))
structure TabW (h : Heap) (K : PySem.W.Frag) (cs : List (Addr × Addr)) : Prop where
  e : ∀ p ∈ cs, h.get? p.2 = some tab0
  n : ∀ p ∈ cs, K.lookup p.2 = none
  c : ∀ p ∈ cs, PySem.W.codeHdIn K p.1 p.2 = true
end RK
namespace DL
open PySem PySem.Spec PyProof.Rows L2 RK LamX
section
variable {P : Program} {w : World} {K : PySem.W.Frag} {mg : Str → Option Value} {base : Heap} {k : Nat} {f : Addr} {fd : FuncData} {ps : List Str}
end
section
variable {X : Cx} {F : Fx} {dk : TDA} {pos p : Pos} {CX : CXT} {k : Nat} {f : Addr} {fd : FuncData} {ps ks : List Str} {sp : DSpX} {E : XK} {x : Str} {fr : Fr} {K : PySem.W.Frag} {PX : Er → Prop}
end
abbrev lamT (cs : List (Addr × Addr)) (q : Str) : List (Addr × Str) := cs.map fun p => (p.2, q)
structure Cls where
  Desk : Addr := 0
  Tale : Addr := 0
  Flow : Addr := 0
  Log : Addr := 0
  Session : Addr := 0
  Console : Addr := 0
  BadName : Addr := 0
  BadRectangle : Addr := 0
  BadSize : Addr := 0
  BadOrder : Addr := 0
  BadStep : Addr := 0
  TooLong : Addr := 0
  BadWish : Addr := 0
  BadFact : Addr := 0
  BadCost : Addr := 0
  Impossible : Addr := 0
  BadStamp : Addr := 0
  Taken : Addr := 0
  Clash : Addr := 0
  OtherLog : Addr := 0
  Full : Addr := 0
  BadDeed : Addr := 0
  BadWatch : Addr := 0
  BadText : Addr := 0
  BadPage : Addr := 0
  Unknown : Addr := 0
  NoStamp : Addr := 0
  NoWatch : Addr := 0
  NothingLeft : Addr := 0
end DL
namespace RK
open PySem PySem.Spec PyProof.Rows L2
open PySem.Sem (wp)
inductive Out : Value → Prop
  | no : Out .none
  | num (T : Addr) : Out (rawInt T)
abbrev ZR (h : Heap) (z : Addr) (o f : Value) (p q : Addr) : Prop :=
  h.get? z = some { cls := .type "zip", dict := none, data := .fields #[o, f, .bool false, .ref p, .ref q], slots := #[] }
theorem lives {prog : Program} {w : World} {A : Around} {E : Value → Shared → Prop} {s : Shared} {t : Addr} {Q : Option Obj → Shared → Prop} (h : Q (s.heap.get? t) s) : wpAny (model prog w) A (loadIfAlive t) Q E s := fun _ _ _ => h
theorem raised {prog : Program} {w : World} {A : Around} {E : Value → Shared → Prop} {s : Shared} {z e p q : Addr} {o f : Value} {Q : Unit → Shared → Prop} (r : ZR s.heap z o f p q) (x : ∃ u, s.heap.get? e = some u ∧ u.cls = .type "StopIteration")
    (k : ∀ h', Heap.SameBut z s.heap h' → (∃ u, h'.get? e = some u ∧ u.cls = .type "StopIteration") → Q () { s with heap := h' }) : wpAny (model prog w) A (setField (.ref z) 0 .none) Q E s :=
  wpAny_setField_rec r (by simp) fun h' _ k1 => k h' k1 (by
    obtain ⟨u, e1, e2⟩ := x
    refine ⟨u, k1.extBut _ _ (fun y => ?_) e1, e2⟩
    subst y
    rw [r] at e1
    cases e1
    exact absurd (show Value.type "zip" = .type "StopIteration" from e2) (by decide))
section
variable {prog : Program} {w : World} {A : Around} {E : Value → Shared → Prop} {z TI TO i1 i2 : Addr} {fp1 fp2 : List Addr} {n1 n2 : Nat} {P1 P2 : Nat → Value → Prop} {St1 St2 : Nat → Heap → Prop}
structure Zs (z TI TO i1 i2 : Addr) (St1 St2 : Nat → Heap → Prop) (h0 : Heap) (m : Nat) (o : Value) (f : Bool) (j1 j2 : Nat) (a b : Value) (h : Heap) : Prop where
  rcd : ZR h z o (.bool f) TI TO
  ins : IsPair h TI (.ref i1) (.ref i2)
  out : IsPair h TO a b
  s1 : St1 j1 h
  s2 : St2 j2 h
  num : h.objs.size = m
  rest : ∀ c u, c ≠ z → c ≠ TO → c ≠ i1 → c ≠ i2 → h0.get? c = some u → h.get? c = some u
variable (S : ZipSep2 z TI TO i1 i2 fp1 fp2) (D1 : Draws prog w A i1 fp1 n1 P1 St1) (D2 : Draws prog w A i2 fp2 n2 P2 St2)
variable {h0 h h' : Heap} {m : Nat} {o o' : Value} {f f' : Bool} {j1 j2 : Nat} {a b a' b' : Value}
include S D1 D2
theorem Zs.note (q : Zs z TI TO i1 i2 St1 St2 h0 m o f j1 j2 a b h) (k : Heap.SameBut z h h') (r : ZR h' z o' (.bool f') TI TO) : Zs z TI TO i1 i2 St1 St2 h0 m o' f' j1 j2 a b h' :=
  ⟨r, k.extBut _ _ S.TIz q.ins, k.extBut _ _ S.TOz q.out, D1.over q.s1 k S.zf1, D2.over q.s2 k S.zf2, k.1.trans q.num, fun c u e1 e2 e3 e4 x => k.extBut _ _ e1 (q.rest c u e1 e2 e3 e4 x)⟩
theorem Zs.write (q : Zs z TI TO i1 i2 St1 St2 h0 m o f j1 j2 a b h) (k : Heap.SameBut TO h h') (r : IsPair h' TO a' b') : Zs z TI TO i1 i2 St1 St2 h0 m o f j1 j2 a' b' h' :=
  ⟨k.extBut _ _ S.TOz.symm q.rcd, k.extBut _ _ S.TITO q.ins, r, D1.over q.s1 k S.Tf1, D2.over q.s2 k S.Tf2, k.1.trans q.num, fun c u e1 e2 e3 e4 x => k.extBut _ _ e2 (q.rest c u e1 e2 e3 e4 x)⟩
theorem Zs.one (q : Zs z TI TO i1 i2 St1 St2 h0 m o f j1 j2 a b h) (k : Heap.SameBut i1 h h') (r : St1 (j1 + 1) h') : Zs z TI TO i1 i2 St1 St2 h0 m o f (j1 + 1) j2 a b h' :=
  ⟨k.extBut _ _ S.zi1 q.rcd, k.extBut _ _ S.TIi1 q.ins, k.extBut _ _ S.Ti1 q.out, r, D2.over q.s2 k S.sep1_2, k.1.trans q.num, fun c u e1 e2 e3 e4 x => k.extBut _ _ e3 (q.rest c u e1 e2 e3 e4 x)⟩
theorem Zs.two (q : Zs z TI TO i1 i2 St1 St2 h0 m o f j1 j2 a b h) (k : Heap.SameBut i2 h h') (r : St2 (j2 + 1) h') : Zs z TI TO i1 i2 St1 St2 h0 m o f j1 (j2 + 1) a b h' :=
  ⟨k.extBut _ _ S.zi2 q.rcd, k.extBut _ _ S.TIi2 q.ins, k.extBut _ _ S.Ti2 q.out, D1.over q.s1 k S.sep2_1, r, k.1.trans q.num, fun c u e1 e2 e3 e4 x => k.extBut _ _ e4 (q.rest c u e1 e2 e3 e4 x)⟩
theorem Zs.more (q : Zs z TI TO i1 i2 St1 St2 h0 m o f j1 j2 a b h) (t : Obj) : Zs z TI TO i1 i2 St1 St2 h0 (m + 1) o f j1 j2 a b (h.push t) := by
  have up : ∀ c u, h.get? c = some u → (h.push t).get? c = some u := fun c u e => Heap.get?_push_of_some _ e
  exact ⟨up _ _ q.rcd, up _ _ q.ins, up _ _ q.out, D1.frame _ _ _ q.s1 fun c _ u e => up c u e, D2.frame _ _ _ q.s2 fun c _ u e => up c u e, by rw [Heap.size_push, q.num], fun c u e1 e2 e3 e4 x => up c u (q.rest c u e1 e2 e3 e4 x)⟩
theorem Zs.draw1 {s : Shared} {Q : Value → Shared → Prop} (q : Zs z TI TO i1 i2 St1 St2 h0 m o f j1 j2 a b s.heap) (l : j1 < n1)
    (k : ∀ x h' t, P1 j1 x → Zs z TI TO i1 i2 St1 St2 h0 m o f (j1 + 1) j2 a b h' → Q x { s with heap := h', toks := t }) : wpAny (model prog w) A (Builtin.SmallTypes.nextOf (.ref i1)) Q E s :=
  D1.item j1 s Q E l q.s1 fun x h' t p st sb => k x h' t p (q.one S D1 D2 sb st)
theorem Zs.draw2 {s : Shared} {Q : Value → Shared → Prop} (q : Zs z TI TO i1 i2 St1 St2 h0 m o f j1 j2 a b s.heap) (l : j2 < n2)
    (k : ∀ x h' t, P2 j2 x → Zs z TI TO i1 i2 St1 St2 h0 m o f j1 (j2 + 1) a b h' → Q x { s with heap := h', toks := t }) : wpAny (model prog w) A (Builtin.SmallTypes.nextOf (.ref i2)) Q E s :=
  D2.item j2 s Q E l q.s2 fun x h' t p st sb => k x h' t p (q.two S D1 D2 sb st)
theorem Zs.ask {s : Shared} {Q : Bool → Shared → Prop} (q : Zs z TI TO i1 i2 St1 St2 h0 m o f j1 j2 a b s.heap) (ho : Out o)
    (k : ∀ y h' f', Zs z TI TO i1 i2 St1 St2 h0 m o f' j1 j2 a b h' → Q y { s with heap := h' }) : wpAny (model prog w) A (Builtin.SmallTypes.ownedTupleIsFree (.ref z)) Q E s := by
  unfold Builtin.SmallTypes.ownedTupleIsFree
  refine wpAny_bind (wpAny_field q.rcd rfl (x := o) rfl ?_)
  cases ho with
  | no => exact wpAny_pure (k true s.heap f q)
  | num T =>
    refine wpAny_bind (lives ?_)
    generalize s.heap.get? _ = al
    cases al with
    | none => exact wpAny_pure (k true s.heap f q)
    | some u =>
      refine wpAny_bind (wpAny_field q.rcd rfl (x := .bool f) rfl ?_)
      cases f with
      | true => exact wpAny_pure (k false s.heap true q)
      | false => exact wpAny_bind (wpAny_setField_rec q.rcd (by simp) fun h' r sb => wpAny_pure (k false h' true (q.note S D1 D2 sb r)))
theorem Zs.put {s : Shared} {β : Type} {r : Sem β} {Q : β → Shared → Prop} {x : Value} (q : Zs z TI TO i1 i2 St1 St2 h0 m o f j1 j2 a b s.heap) (n : Nat) (e : (#[a, b] : Array Value).setIfInBounds n x = #[a', b'])
    (k : ∀ h', Zs z TI TO i1 i2 St1 St2 h0 m o f j1 j2 a' b' h' → wpAny (model prog w) A r Q E { s with heap := h' }) :
    wpAny (model prog w) A (do let some kept ← seqItems? (.ref TO) | unsupported "internal:zip.__next__"
                               updateSeq TO (·.setIfInBounds n x)
                               letGo [kept.getD n .none]
                               r) Q E s := by
  refine wpAny_bind (wpAny_seqItems q.out rfl (wpAny_bind (wpAny_updateSeq q.out rfl (wpAny_bind (wpAny_letGo (k _ (q.write S D1 D2 (Heap.SameBut.update ..) ?_)))))))
  show Heap.get? _ _ = _
  rw [Heap.get?_update_self _ q.out rfl, ← e]
  simp [Obj.mapSeq]
theorem Zs.next {s : Shared} {Q : Value → Shared → Prop} {j : Nat} (q : Zs z TI TO i1 i2 St1 St2 s.heap s.heap.objs.size o f j j a b s.heap) (ho : Out o) (l1 : j < n1) (l2 : j < n2)
    (k : ∀ x y h' t o' f' a' b', P1 j x → P2 j y → Out o' → IsPair h' s.heap.objs.size x y → Zs z TI TO i1 i2 St1 St2 s.heap (s.heap.objs.size + 1) o' f' (j + 1) (j + 1) a' b' h' → Q (.ref s.heap.objs.size) { s with heap := h', toks := t }) :
    wpAny (model prog w) A (Builtin.«zip.__next__» ⟨[.ref z], []⟩) (fun v s' => ∃ u, v = .done (.ret u) ∧ Q u s') E s := by
  have lz : z < s.heap.objs.size := Heap.lt_size q.rcd
  show wpAny _ _ (field (.ref z) 2 >>= _) _ _ _
  refine wpAny_bind (wpAny_field q.rcd rfl (x := .bool false) rfl (wpAny_bind (wpAny_field q.rcd rfl (x := .ref TI) rfl (wpAny_bind (wpAny_seqItems q.ins rfl ?_)))))
  refine wpAny_bind (q.ask S D1 D2 ho fun y h1 f1 q1 => ?_)
  cases y
  · refine wpAny_bind ?_
    rw [← Array.forIn_toList]
    simp only [List.forIn_cons, List.forIn_nil]
    refine wpAny_bind (wpAny_bind (wpAny_holding (wpAny_bind (Zs.draw1 S D1 D2 (s := { s with heap := h1 }) q1 l1 fun x h2 t2 px q2 => wpAny_pure (wpAny_pure ?_)))))
    refine wpAny_bind (wpAny_bind (wpAny_holding (wpAny_bind (Zs.draw2 S D1 D2 (s := { s with heap := h2, toks := t2 }) q2 l2 fun y h3 t3 py q3 => wpAny_pure (wpAny_pure (wpAny_pure ?_))))))
    refine wpAny_bind (wpAny_newTuple (hsz := by show 2 ≤ sizeLine; decide) (wpAny_pure ⟨_, rfl, ?_⟩))
    have e := Heap.get?_push_size h3 (o := { cls := .type "tuple", data := .seq #[x, y] }) rfl
    rw [q3.num] at e
    have g := k x y _ t3 o f1 a b px py ho e (q3.more S D1 D2 _)
    rw [← q3.num] at g
    exact g
  · refine wpAny_bind (wpAny_rule (wpAny_bind (wpAny_field q1.rcd rfl (x := .ref TO) rfl (wpAny_bind (wpAny_setField_rec q1.rcd (by simp) fun h2 r2 k2 => ?_)))))
    have q2 : Zs z TI TO i1 i2 St1 St2 s.heap s.heap.objs.size .ellipsis f1 j j a b h2 := q1.note S D1 D2 k2 r2
    refine wpAny_bind ?_
    simp only [List.zipIdx_cons, List.zipIdx_nil, List.forIn_cons, List.forIn_nil]
    refine wpAny_bind (wpAny_bind (wpAny_onRaise (wpAny_bind (Zs.draw1 S D1 D2 (s := { s with heap := h2 }) q2 l1 fun x h3 t3 px q3 => wpAny_pure ?_))))
    refine Zs.put S D1 D2 (s := { s with heap := h3, toks := t3 }) q3 0 (a' := x) (b' := b) rfl fun h4 q4 => wpAny_pure ?_
    refine wpAny_bind (wpAny_bind (wpAny_onRaise (wpAny_bind (Zs.draw2 S D1 D2 (s := { s with heap := h4, toks := t3 }) q4 l2 fun y h5 t5 py q5 => wpAny_pure ?_))))
    refine Zs.put S D1 D2 (s := { s with heap := h5, toks := t5 }) q5 1 (a' := x) (b' := y) rfl fun h6 q6 => wpAny_pure (wpAny_pure ?_)
    refine wpAny_bind (wpAny_seqItems q6.out rfl (wpAny_bind (wpAny_newTuple (hsz := by show 2 ≤ sizeLine; decide) ?_)))
    have e := Heap.get?_push_size h6 (o := { cls := .type "tuple", data := .seq #[x, y] }) rfl
    have q7 := q6.more S D1 D2 { cls := .type "tuple", data := .seq #[x, y] }
    refine wpAny_bind (wpAny_bind (wpAny_setField_rec q7.rcd (by simp) fun h8 r8 k8 => ?_))
    refine wpAny_setField_rec r8 (by simp) fun h9 r9 k9 => wpAny_pure ⟨_, rfl, ?_⟩
    have q9 : Zs z TI TO i1 i2 St1 St2 s.heap (s.heap.objs.size + 1) (rawInt h6.objs.size) false (j + 1) (j + 1) x y h9 := (q7.note S D1 D2 (o' := rawInt h6.objs.size) (f' := f1) k8 r8).note S D1 D2 k9 r9
    have e9 : IsPair h9 h6.objs.size x y := by
      have ne : h6.objs.size ≠ z := by rw [q6.num]; exact Nat.ne_of_gt lz
      exact k9.extBut _ _ ne (k8.extBut _ _ ne e)
    rw [q6.num] at e9
    have g := k x y _ t5 _ false x y px py (.num _) e9 q9
    rw [← q6.num] at g
    exact g
theorem Zs.over {s : Shared} {Q : Fin → Shared → Prop} {j : Nat} (q : Zs z TI TO i1 i2 St1 St2 s.heap s.heap.objs.size o f j j a b s.heap) (ho : Out o) (l : j = n1 ∨ (j < n1 ∧ j = n2))
    (k : ∀ h' t e, (∀ c u, c ≠ z → c ≠ TO → c ≠ i1 → c ≠ i2 → s.heap.get? c = some u → h'.get? c = some u) → (∃ u, h'.get? e = some u ∧ u.cls = .type "StopIteration") → E (.ref e) { s with heap := h', toks := t }) :
    wpAny (model prog w) A (Builtin.«zip.__next__» ⟨[.ref z], []⟩) Q E s := by
  show wpAny _ _ (field (.ref z) 2 >>= _) _ _ _
  refine wpAny_bind (wpAny_field q.rcd rfl (x := .bool false) rfl (wpAny_bind (wpAny_field q.rcd rfl (x := .ref TI) rfl (wpAny_bind (wpAny_seqItems q.ins rfl ?_)))))
  refine wpAny_bind (q.ask S D1 D2 ho fun y h1 f1 q1 => ?_)
  cases y
  · refine wpAny_bind ?_
    rw [← Array.forIn_toList]
    simp only [List.forIn_cons, List.forIn_nil]
    refine wpAny_bind (wpAny_bind (wpAny_holding (wpAny_bind ?_)))
    rcases l with rfl | ⟨l1, rfl⟩
    · exact D1.done { s with heap := h1 } _ _ q1.s1 fun h2 e k2 x => k h2 s.toks e (fun c u e1 e2 e3 e4 y => k2 _ _ e3 (q1.rest c u e1 e2 e3 e4 y)) x
    · refine Zs.draw1 S D1 D2 (s := { s with heap := h1 }) q1 l1 fun x h2 t2 px q2 => wpAny_pure (wpAny_pure ?_)
      refine wpAny_bind (wpAny_bind (wpAny_holding (wpAny_bind ?_)))
      exact D2.done { s with heap := h2, toks := t2 } _ _ q2.s2 fun h3 e k3 x => k h3 t2 e (fun c u e1 e2 e3 e4 y => k3 _ _ e4 (q2.rest c u e1 e2 e3 e4 y)) x
  · refine wpAny_bind (wpAny_rule (wpAny_bind (wpAny_field q1.rcd rfl (x := .ref TO) rfl (wpAny_bind (wpAny_setField_rec q1.rcd (by simp) fun h2 r2 k2 => ?_)))))
    have q2 : Zs z TI TO i1 i2 St1 St2 s.heap s.heap.objs.size .ellipsis f1 j j a b h2 := q1.note S D1 D2 k2 r2
    refine wpAny_bind ?_
    simp only [List.zipIdx_cons, List.zipIdx_nil, List.forIn_cons, List.forIn_nil]
    refine wpAny_bind (wpAny_bind (wpAny_onRaise (wpAny_bind ?_)))
    rcases l with rfl | ⟨l1, rfl⟩
    · exact D1.done { s with heap := h2 } _ _ q2.s1 fun h3 e k3 x => raised (s := { s with heap := h3 }) (k3 _ _ S.zi1 q2.rcd) x fun h4 k4 y => k h4 s.toks e (fun c u e1 e2 e3 e4 y => k4.extBut _ _ e1 (k3 _ _ e3 (q2.rest c u e1 e2 e3 e4 y))) y
    · refine Zs.draw1 S D1 D2 (s := { s with heap := h2 }) q2 l1 fun x h3 t3 px q3 => wpAny_pure ?_
      refine Zs.put S D1 D2 (s := { s with heap := h3, toks := t3 }) q3 0 (a' := x) (b' := b) rfl fun h4 q4 => wpAny_pure ?_
      refine wpAny_bind (wpAny_bind (wpAny_onRaise (wpAny_bind ?_)))
      exact D2.done { s with heap := h4, toks := t3 } _ _ q4.s2 fun h5 e k5 x => raised (s := { s with heap := h5, toks := t3 }) (k5 _ _ S.zi2 q4.rcd) x fun h6 k6 y => k h6 t3 e (fun c u e1 e2 e3 e4 y => k6.extBut _ _ e1 (k5 _ _ e4 (q4.rest c u e1 e2 e3 e4 y))) y
end
section
variable {prog : Program} {w : World} {A : Around} {E : Value → Shared → Prop} {z TI TO i1 i2 : Addr} {fp1 fp2 : List Addr} {n1 n2 : Nat} {P1 P2 : Nat → Value → Prop} {St1 St2 : Nat → Heap → Prop} {o : Value} {f : Bool} {a b : Value}
end
structure Kin (Sq : PySem.W.Frag → Hp → Addr → List V → Prop) (Has : Heap → Addr → Array Value → Prop) (Itr : Heap → Addr → Addr → Nat → Prop) : Prop where
  stay : ∀ {h h' : Heap} {i l : Addr} {k : Nat}, Itr h i l k → (∀ u, h.get? i = some u → h'.get? i = some u) → Itr h' i l k
  live : ∀ {h : Heap} {i l : Addr} {k : Nat}, Itr h i l k → ∃ u, h.get? i = some u ∧ ∀ v, u.data ≠ .cell v
  lt : ∀ {h : Heap} {l : Addr} {xs : Array Value}, Has h l xs → l < h.objs.size
  items : ∀ {X : Cx} {pins : List (Addr × Obj)} {σ : L2.St} {H : Hp} {s : Shared} {l : Addr} {xs : List V}, Inv X pins σ H s → Sq X.K H l xs → ∃ its : List Value, Vals xs its ∧ Has s.heap l its.toArray
  inj : ∀ {X : Cx} {pins : List (Addr × Obj)} {σ : L2.St} {H : Hp} {s : Shared} {l : Addr} {xs ys : List V}, Inv X pins σ H s → Sq X.K H l xs → Sq X.K H l ys → xs = ys
  goes : ∀ {prog : Program} {w : World} {A : Around}, A.handled = none → ∀ (i l : Addr) (xs : Array Value), l ≠ i → Draws prog w A i [i, l] xs.size (fun k v => xs[k]? = some v) (fun k h => Itr h i l k ∧ Has h l xs)
  ends : ∀ {prog : Program} {w : World} {A : Around}, A.handled = none → ∀ (i l : Addr) (xs : Array Value) (n : Nat), l ≠ i → xs.size ≤ n → Draws prog w A i [i, l] n (fun _ _ => False) (fun k h => k = n ∧ Itr h i l n ∧ Has h l xs)
section
variable {Sq : PySem.W.Frag → Hp → Addr → List V → Prop} {Has : Heap → Addr → Array Value → Prop} {Itr : Heap → Addr → Addr → Nat → Prop}
def ZipAt (Itr : Heap → Addr → Addr → Nat → Prop) (z TI TO i1 i2 l1 l2 : Addr) (i : Nat) (h : Heap) : Prop :=
  ∃ o f a b, Out o ∧ ZR h z o (.bool f) TI TO ∧ IsPair h TI (.ref i1) (.ref i2) ∧ IsPair h TO a b ∧ Itr h i1 l1 i ∧ Itr h i2 l2 i
theorem made {X : Cx} {pins : List (Addr × Obj)} {σ : L2.St} {H : Hp} {s : Shared} {h' : Heap} {l1 l2 : Addr} {x : String} {px : Pos} {J : It} {R : It → Hp → Prop} (kin : Kin Sq Has Itr) (I : Inv X pins σ H s) (e1 : l1 < s.heap.objs.size) (e2 : l2 < s.heap.objs.size)
    (k : ∀ c u, s.heap.get? c = some u → h'.get? c = some u) (at0 : ZipAt Itr (s.heap.objs.size + 4) (s.heap.objs.size + 2) (s.heap.objs.size + 3) s.heap.objs.size (s.heap.objs.size + 1) l1 l2 0 h')
    (t : Turn X.prog X.w X.K (.Name x px) J [s.heap.objs.size + 4, s.heap.objs.size + 2, s.heap.objs.size + 3, s.heap.objs.size, s.heap.objs.size + 1] (s.heap.objs.size + 4) (ZipAt Itr (s.heap.objs.size + 4) (s.heap.objs.size + 2) (s.heap.objs.size + 3) s.heap.objs.size (s.heap.objs.size + 1) l1 l2)) (q : R J H) :
    PIE X pins σ (.Name x px) R (.ref (s.heap.objs.size + 4)) { s with heap := h' } := by
  refine ⟨_, _, _, J, H, rfl, I.kept (t' := s.toks) k, t, at0, fun c hc => ?_, q⟩
  have le : s.heap.objs.size ≤ c := by
    simp only [List.mem_cons, List.not_mem_nil, or_false] at hc
    rcases hc with rfl | rfl | rfl | rfl | rfl
    all_goals first | exact Nat.le_add_right _ _ | exact Nat.le_refl _
  exact I.fpOk le (I.hok.fresh le)
end
end RK
namespace RK
open PySem PySem.Spec PyProof.Rows L2
section
variable {X : Cx} {pins : List (Addr × Obj)} {σ τ : L2.St} {s0 s : Shared} {H0 H : Hp} {sco : Scope} {own : List (Str × Nat)} {tg : Expr} {J : It} {fp : List Addr} {it : Addr} {tn : Nat → Heap → Prop} {i : Nat}
abbrev bEnv (X : Cx) (sco : Scope) (s0 : Shared) : Env := compEnvC sco (cellsFrom (s0.heap.objs.size + 1) sco.names (cloFrom X.env.cells sco.names [])) s0.heap.objs.size X.env
abbrev bCx (X : Cx) (sco : Scope) (fp : List Addr) (s0 : Shared) (H0 : Hp) : Cx := X.blk s0 H0 sco (bEnv X sco s0) fp
structure Outer (X : Cx) (pins : List (Addr × Obj)) (σ : L2.St) (s0 : Shared) (H0 : Hp) (fp : List Addr) : Prop where
  inv : Inv X pins σ H0 s0
  cells : ∀ b ∈ fp, FpOk X pins H0 b ∧ b < s0.heap.objs.size
structure Inner (X : Cx) (sco : Scope) (fp : List Addr) (s0 : Shared) (H0 : Hp) (tn : Nat → Heap → Prop) (τ : L2.St) (i : Nat) (H : Hp) (s : Shared) : Prop where
  inv : Inv (bCx X sco fp s0 H0) [] τ H s
  at_ : tn i s.heap
  out : ∀ b ∈ fp, H b = none
theorem Inner.cells (B : Inner X sco fp s0 H0 tn τ i H s) : ∀ b ∈ fp, FpOk (bCx X sco fp s0 H0) [] H b := fun b hb =>
  ⟨B.out b hb, (B.inv.ok.exf b hb).1, B.inv.ok.exfs b hb, .inl hb, (B.inv.ok.exf b hb).2, fun _ h => nomatch h⟩
theorem Outer.back (O : Outer X pins σ s0 H0 fp) (I : Inv (bCx X sco fp s0 H0) [] τ H s) : Inv X pins σ H s ∧ FpOk X pins H s0.heap.objs.size ∧ ∃ m, s.heap.Ns s0.heap.objs.size m :=
  ⟨O.inv.call' (ch := fp) I.os I.base I.hok I.bare fun b hb => let ⟨_, f1, _, f3, f4, f5⟩ := (O.cells b hb).1; ⟨f3, f1, f4, f5⟩, O.inv.fpOk (Nat.le_refl _) I.free, let ⟨m, h, _⟩ := I.loc; ⟨m, h⟩⟩
theorem Inner.stop (B : Inner X sco fp s0 H0 tn τ i H s) (O : Outer X pins σ s0 H0 fp) (calm : X.calm = true) (T : Turn X.prog X.w X.K tg J fp it tn) (e : J.stop i H) {E : Value → Shared → Prop} :
    wpAny (model X.prog X.w) X.A (pyNext (.ref it)) (fun r s1 => r = none ∧ Inv X pins σ H s1 ∧ FpOk X pins H s0.heap.objs.size ∧ ∃ m, s1.heap.Ns s0.heap.objs.size m) E s :=
  thn (T.done (bCx X sco fp s0 H0) rfl rfl rfl calm i [] s τ H E B.inv B.cells B.at_ e) fun _ _ h => ⟨h.1, O.back h.2⟩
theorem Inner.take (B : Inner X sco fp s0 H0 tn τ i H s) (calm : X.calm = true) (T : Turn X.prog X.w X.K tg J fp it tn) (e : J.go i H) {E : Value → Shared → Prop} :
    wpAny (model X.prog X.w) X.A (pyNext (.ref it)) (fun r s1 => ∃ u, r = some u ∧ wpAny (model X.prog X.w) X.A (letOwnedTupleGo tg (.ref it) u) (fun _ s2 =>
      ∃ x H2, RelV x u ∧ J.yld i H x H2 ∧ Inv (bCx X sco fp s0 H0) ([] ++ pinsAt fp s2.heap) τ H2 s2 ∧
        ∀ τ3 H3 s3, Inv (bCx X sco fp s0 H0) ([] ++ pinsAt fp s2.heap) τ3 H3 s3 → Inner X sco fp s0 H0 tn τ3 (i + 1) H3 s3) E s1) E s := by
  refine thn (T.item (bCx X sco fp s0 H0) rfl rfl rfl calm i [] s τ H E B.inv B.cells B.at_ e) fun r s1 ⟨u, hr, h⟩ => ⟨u, hr, thn h fun _ s2 ⟨x, H2, I2, rx, y, t2, n2⟩ => ?_⟩
  have B2 : Inner X sco fp s0 H0 tn τ (i + 1) H2 s2 := ⟨I2, t2, n2⟩
  refine ⟨x, H2, rx, y, I2.pinned B2.cells (T.obj _ _ t2), fun τ3 H3 s3 I3 => ?_⟩
  have pin : ∀ b ∈ fp, ∀ o, s2.heap.get? b = some o → s3.heap.get? b = some o ∧ H3 b = none := fun b hb o e =>
    let p := I3.pin (b, o) (List.mem_append_right _ (List.mem_append_right _ (mem_pinsAt hb e)))
    ⟨p.1, p.2.1⟩
  exact ⟨I3.unpinned, T.keep _ _ _ t2 fun b hb o e => (pin b hb o e).1, fun b hb => let ⟨o, e, _⟩ := T.obj _ _ t2 b hb; (pin b hb o e).2⟩
end
end RK
namespace DL
open PySem PySem.Spec PyProof.Rows L2 RK
section
variable {X : Cx} {F : Fx} {e a b c tg iter : Expr} {es : List Expr} {d da db dc : TDE} {ds : TDA} {pos p : Pos} {i j l : Nat}
end
end DL
namespace DL
open PySem PySem.Spec PyProof.Rows L2 RK
section
variable {X : Cx} {F : Fx} {e : Expr} {es : List Expr} {d : TDE} {ds : TDA} {p : Pos}
end
end DL
namespace DL
open PySem PySem.Spec PyProof.Rows L2 RK
section
variable {X : Cx}
end
section
variable {X : Cx} {F : Fx} {e : Expr} {d : TDE} {pos p : Pos}
end
end DL
namespace DL
open PySem PySem.Spec PyProof.Rows L2 RK
structure AbY (F : Fx) (env : De) (σ : L2.St) (L : List Addr) (H : Hp) (i j : Nat) (H0 : Hp) : Prop where
  a : Abs F env σ L H
  y : ∀ xs ys, env[i]? = some (.fz (.tup xs)) → xs[j]? = some (.lst ys) → ∃ t vs c us, σ[i]? = some (some (.ref t)) ∧ H t = some (.tup vs) ∧ vs[j]? = some (.ref c) ∧ H0 c = none ∧ H c = some (.lst us) ∧ Lone (env.set i .no) σ c ∧ Abs F (env.set i .no) σ (c :: L) H
section
variable {X : Cx} {F : Fx} {e c o : Expr} {d : TDE} {pos p : Pos} {i j : Nat} {sa rest : List Stmt} {r r2 : TDS} {t : TDT}
theorem AbY.step {env : De} {σ : L2.St} {L : List Addr} {H H' H0 : Hp} (A : AbY F env σ L H i j H0) (k : KeepW F.W H H') (ok : F.W.ok H') : AbY F env σ L H' i j H0 := by
  refine ⟨A.a.step k ok, fun xs ys h1 h2 => ?_⟩
  obtain ⟨t, vs, c, us, a1, a2, a3, a4, a5, lo, B⟩ := A.y xs ys h1 h2
  have hv := A.a.en i _ _ h1 a1
  have nt : ¬ F.W.own t := by
    cases hv with | tup g1 g2 _ => exact nw_of A.a g2
  have nc : ¬ F.W.own c := fun z => B.out List.mem_cons_self (B.wn c z)
  exact ⟨t, vs, c, us, a1, k _ _ nt a2, a3, a4, k _ _ nc a5, lo, B.step k ok⟩
end
end DL
namespace DL
open PySem PySem.Spec PyProof.Rows L2 RK
section
variable {X : Cx} {F : Fx} {e : Expr} {es : List Expr} {ds dk : TDA} {pos p : Pos} {CX : CXT} {k n m : Nat} {f : Addr} {fd : FuncData} {ps ks : List Str} {sp : DSp} {E : XK} {x : Str} {fr : Fr} {K : PySem.W.Frag}
variable {a b c : Expr} {d da db dc : TDE} {i j : Nat} {kk : Nat}
end
end DL
namespace DL
open PySem PySem.Spec PyProof.Rows L2 RK
section
variable {X : Cx} {F : Fx} {o : Expr} {d : TDE} {dk : TDA} {pos apos : Pos} {CX : CXT} {k q : Nat} {f C : Addr} {fd : FuncData} {ps ks : List Str} {sp : DSp} {E : XK} {m : Str} {fr : Fr} {K : PySem.W.Frag} {pl : Sem Bool}
end
end DL
namespace RK
open PySem PySem.Spec PyProof.Rows L2
section
variable {prog : Program} {w : World} {A : Around} {R : Result → Shared → Prop} {I : Addr} {fp wr : List Addr} {n : Nat} {P : Nat → Value → Prop} {St : Nat → Heap → Prop} {kw : List (Str × Value)}
end
section
variable {prog : Program} {w : World} {A : Around} {E : Value → Shared → Prop} {s : Shared} {l : Addr} {its : List Value} {ns : List Int}
end
section
variable {X : Cx}
end
end RK
namespace DL
open PySem PySem.Spec PyProof.Rows L2 RK
section
variable {X : Cx} {F : Fx} {e a b c : Expr} {d da db dc : TDE} {ds dk : TDA} {pos p : Pos} {k : Nat}
end
end DL
namespace DL
open PySem PySem.Spec PyProof.Rows L2 RK
section
variable {K : PySem.W.Frag} {N : Addr → Prop} {W : Wd} {H H' : Hp} {d : Addr} {kvs : List (Key × V)}
structure LkR (H H' : Hp) (d : Addr) (kvs : List (Key × V)) : Prop where
  o : ∀ a, a ≠ d → H' a = H a
  l : Rd H d (.dK kvs)
  r : Rd H' d (.dK kvs)
theorem LkR.symm (h : LkR H H' d kvs) : LkR H' H d kvs := ⟨fun a n => (h.o a n).symm, h.r, h.l⟩
theorem LkR.keep (h : LkR H H' d kvs) {a : Addr} {u : HO} (e : H a = some u) (n : ∀ o, u ≠ .dK kvs ∧ u ≠ .frz o (.dK kvs)) : H' a = some u := by
  by_cases z : a = d
  · subst z
    rcases h.l with q | ⟨o, q⟩
    · rw [q] at e
      exact absurd (Option.some.inj e).symm (n (Classical.choice ⟨default⟩)).1
    · rw [q] at e
      exact absurd (Option.some.inj e).symm (n o).2
  · rw [h.o a z]; exact e
theorem LkR.rd (h : LkR H H' d kvs) {a : Addr} {us : List (Key × V)} (e : Rd H a (.dK us)) : Rd H' a (.dK us) := by
  by_cases z : a = d
  · subst z
    have : us = kvs := by
      rcases h.l with q | ⟨o, q⟩ <;> rcases e with e | ⟨o', e⟩ <;> rw [q] at e <;> cases e <;> rfl
    rw [this]
    exact h.r
  · rcases e with e | ⟨o, e⟩
    · exact .inl (by rw [h.o a z]; exact e)
    · exact .inr ⟨o, by rw [h.o a z]; exact e⟩
theorem LkR.rdT (h : LkR H H' d kvs) {a : Addr} {us : List (List Key × V)} (e : Rd H a (.dT us)) : Rd H' a (.dT us) := by
  rcases e with e | ⟨o, e⟩
  · exact .inl (h.keep e fun o => ⟨fun z => (by cases z), fun z => (by cases z)⟩)
  · exact .inr ⟨o, h.keep e fun o => ⟨fun z => (by cases z), fun z => (by cases z)⟩⟩
theorem cells_lk {N : Addr → Prop} (h : LkR H H' d kvs) : ∀ {ps : List (Str × Addr)} {vs : List V}, CellsH N H ps vs → CellsH N H' ps vs
  | [], [], _ => True.intro
  | _ :: _, _ :: _, ⟨e, n, r⟩ => ⟨h.keep e fun o => ⟨fun z => (by cases z), fun z => (by cases z)⟩, n, cells_lk h r⟩
  | [], _ :: _, e => e.elim
  | _ :: _, [], e => e.elim
theorem fnH_lk {N : Addr → Prop} (h : LkR H H' d kvs) {f : Addr} {F : LF} {vs : List V} (q : FnH N H f F vs) : FnH N H' f F vs where
  at_ := h.keep q.at_ fun o => ⟨fun z => (by cases z), fun z => (by cases z)⟩
  nf := q.nf
  code := h.keep q.code fun o => ⟨fun z => (by cases z), fun z => (by cases z)⟩
  nc := q.nc
  td := fun t e => ⟨h.keep (q.td t e).1 fun o => ⟨fun z => (by cases z), fun z => (by cases z)⟩, (q.td t e).2⟩
  cells := fun e => cells_lk h (q.cells e)
mutual
theorem Dd.lk (h : LkR H H' d kvs) : ∀ {v : V} {x : D}, Dd K N W H v x → Dd K N W H' v x
  | _, _, .non => .non
  | _, _, .bl b => .bl b
  | _, _, .int i => .int i
  | _, _, .str x => .str x
  | _, _, .lst e q a => .lst (h.keep e fun o => ⟨fun z => (by cases z), fun z => (by cases z)⟩) q (DdAll.lk h a)
  | _, _, .tup e q a => .tup (h.keep e fun o => ⟨fun z => (by cases z), fun z => (by cases z)⟩) q (DdAll.lk h a)
  | _, _, .ktp h1 h2 h3 h4 h5 a => .ktp h1 h2 h3 h4 h5 (DdAll.lk h a)
  | _, _, .dic e q z a => .dic (h.rd e) q z (DdAll.lk h a)
  | _, _, .dct e q z a => .dct (h.rdT e) q z (DdAll.lk h a)
  | _, _, .obj e q z a => .obj (h.keep e fun o => ⟨fun z => (by cases z), fun z => (by cases z)⟩) q z (DdAll.lk h a)
  | _, _, .bag e => .bag e
  | _, _, .fn q a => .fn (fnH_lk h q) (DdAll.lk h a)
  | _, _, .tr e q a => .tr (h.keep e fun o => ⟨fun z => (by cases z), fun z => (by cases z)⟩) q (a.tup fun b vs e => h.keep e fun o => ⟨fun z => (by cases z), fun z => (by cases z)⟩)
theorem DdAll.lk (h : LkR H H' d kvs) : ∀ {vs : List V} {xs : List D}, DdAll K N W H vs xs → DdAll K N W H' vs xs
  | _, _, .nil => .nil
  | _, _, .cons e a => .cons (Dd.lk h e) (DdAll.lk h a)
end
theorem LkR.ok (h : LkR H H' d kvs) (k : W.ok H) (nd : ¬ W.own d) : W.ok H' := by
  refine Wd.st k (fun a o e n => ?_) (fun a ps e => ?_)
  · by_cases ad : a = d
    · subst ad
      exfalso
      rcases n with n | n
      · exact nd n
      · rcases h.l with q | ⟨z, q⟩ <;> rw [q] at e <;> cases e <;> exact n True.intro
    · rw [h.o a ad]; exact e
  · exact ⟨ps, h.symm.keep e fun z => ⟨fun q => (by cases q), fun q => (by cases q)⟩⟩
end
def En.hk : En → En
  | .fz d => .fz d
  | _ => .no
def hidK (env : De) : De := env.map En.hk
theorem En.hk_ow : ∀ e : En, e.hk.isOw = false
  | .no => rfl
  | .fz _ => rfl
  | .ow _ => rfl
  | .od _ => rfl
  | .ot _ => rfl
  | .otr _ _ => rfl
  | .oo _ _ _ => rfl
  | .fe _ => rfl
theorem nk_nil {N : Addr → Prop} {a : Addr} {K : PySem.W.Frag} {W : Wd} {H0 : Hp} {fr : Fr} : Fx.N ⟨K, W, N, H0, fr⟩ [] a ↔ N a := ⟨fun h => h.elim id (fun z => by cases z), fun h => .inl h⟩
section
variable {F : Fx} {env : De} {σ : L2.St} {L : List Addr} {H H' : Hp} {d : Addr} {kvs : List (Key × V)}
theorem Abs.lk (A : Abs F env σ L H) (h : LkR H H' d kvs) (nd : ¬ F.N L d) : Abs ⟨F.K, F.W, F.N L, H', false⟩ (hidK env) σ [] H' where
  ok := h.ok A.ok fun z => nd (.inl (A.wn d z))
  al := fun a n => by
    obtain ⟨o, e⟩ := A.alN n
    by_cases z : a = d
    · exact absurd (z ▸ n) nd
    · exact ⟨o, (h.o a z).trans e⟩
  wn := fun a h => .inl (A.wn a h)
  kp := .refl _ _
  fr := fun a h => by cases h
  ls := by unfold hidK; rw [List.length_map]; exact A.ls
  sep := fun i j a ei ej h1 _ h3 _ _ _ => by
    unfold hidK at h1
    rw [List.getElem?_map] at h1
    obtain ⟨e, _, rfl⟩ := Option.map_eq_some_iff.mp h1
    rw [En.hk_ow] at h3
    cases h3
  so := fun i e b h hb => by
    unfold hidK at h
    rw [List.getElem?_map] at h
    obtain ⟨e, _, rfl⟩ := Option.map_eq_some_iff.mp h
    cases e <;> cases hb
  en := fun i e x h1 h2 => by
    unfold hidK at h1
    rw [List.getElem?_map] at h1
    obtain ⟨e, he, rfl⟩ := Option.map_eq_some_iff.mp h1
    have h3 := A.en i e x he h2
    cases e with
    | fz y =>
      cases x with
      | none => exact h3.elim
      | some v => exact Dd.keep (fun a o _ h => h) (fun a h => nk_nil.mp h) (Dd.lk h h3)
    | _ => exact trivial
end
theorem PE.or2 {X : Cx} {e : Expr} {t t' : TE} (h : PE X e t) (h' : PE X e t') : PE X e (fun σ H Q => t σ H Q ∨ t' σ H Q) := ⟨fun pins s σ H Q I q => by
  rcases q with q | q
  · exact h.run pins s σ H Q I q
  · exact h'.run pins s σ H Q I q⟩
end DL
namespace RK
open PySem PySem.Spec PyProof.Rows L2
section
variable {P : Program} {w : World} {A : Around} {E : Value → Shared → Prop} {s : Shared}
abbrev TuK (P : Program) (w : World) (h : Heap) (k : List Key) (b : Addr) : Prop := IsTupleKey (mixKind P w) h k b
abbrev hsh (P : Program) (w : World) (k : List Key) : Int := tupleKeyHash (mixKind P w) k
abbrev Lf (vs : List Value) : Prop := ∀ v ∈ vs, (∃ i t, v = Value.int i t) ∨ ∃ x t, v = Value.str x t
abbrev AllT (P : Program) (w : World) (h : Heap) (ys : List Value) : Prop := ∀ y ∈ ys, ∃ k c, y = Value.ref c ∧ TuK P w h k c
abbrev Mem := Addr × List Key
def entries (P : Program) (w : World) (L : List Mem) : List (Int × Value) := L.map fun p => (hsh P w p.2, Value.ref p.1)
def hashes (P : Program) (w : World) (L : List Mem) : List Int := L.map fun p => hsh P w p.2
structure TSt (P : Program) (w : World) (h : Heap) (a : Addr) (L : List Mem) (es : Array (Int × Value)) (ep : Nat) (t : SetTable) : Prop where
  ob : ∃ o, h.get? a = some o ∧ o.ExactSet ∧ o.data = .set es ep t
  es : es.toList = entries P w L
  tb : TabOk t (hashes P w L)
  nd : (L.map (·.2)).Nodup
  tu : ∀ p ∈ L, TuK P w h p.2 p.1
  ld : w.params.followText "set-order" = true ∨ t.led = true
  rm : L.length * 5 < t.mask * 3
  fw : L.length < 64
variable {a : Addr} {L : List Mem} {es : Array (Int × Value)} {ep : Nat} {t : SetTable}
theorem ent_size (h : es.toList = entries P w L) : es.size = L.length := by
  have := congrArg List.length h
  rwa [Array.length_toList, entries, List.length_map] at this
theorem hashes_len (L : List Mem) : (hashes P w L).length = L.length := List.length_map _
theorem fits_of (h1 : t.place.size = es.size) (h2 : t.dummies = #[]) (h3 : es.size ≤ t.mask) : t.fits es.size = true := by
  unfold SetTable.fits SetTable.fill
  rw [h2, Bool.and_eq_true, beq_iff_eq, decide_eq_true_eq]
  exact ⟨h1, by show t.place.size + 0 ≤ _; omega⟩
theorem TSt.fits (R : TSt P w s.heap a L es ep t) : t.fits es.size = true := by
  have h1 := R.tb.sz
  have h2 := ent_size R.es
  have h3 := R.rm
  rw [hashes_len] at h1
  exact fits_of (h1.trans h2.symm) R.tb.dm (by omega)
abbrev stp (t : SetTable) (h : Int) (c : Nat) : SetTable.Probe := nth t.mask (runAt t.mask (SetTable.bits h % (t.mask + 1)) (SetTable.bits h)) c
end
end RK
namespace RK
open PySem PySem.Spec PyProof.Rows L2
structure Met (ks : List Mem) (i : Nat) (L : List Mem) : Prop where
  sub : ∀ p ∈ L, p ∈ ks.take i
  all : ∀ p ∈ ks.take i, p.2 ∈ L.map (·.2)
theorem take_one {α : Type} {l : List α} {i : Nat} {x : α} (h : l[i]? = some x) : l.take (i + 1) = l.take i ++ [x] := by
  rw [List.take_succ, h]
  rfl
theorem Met.old {ks L : List Mem} {i : Nat} {x : Mem} (g : Met ks i L) (h : ks[i]? = some x) (hm : x.2 ∈ L.map (·.2)) : Met ks (i + 1) L := by
  constructor
  · exact fun p hp => by rw [take_one h]; exact List.mem_append_left _ (g.sub p hp)
  · intro p hp
    rw [take_one h] at hp
    rcases List.mem_append.mp hp with z | z
    · exact g.all p z
    · rw [List.mem_singleton.mp z]; exact hm
theorem Met.new {ks L L' : List Mem} {i : Nat} {x : Mem} (g : Met ks i L) (h : ks[i]? = some x) (pm : L'.Perm (x :: L)) : Met ks (i + 1) L' := by
  constructor
  · intro p hp
    rw [take_one h]
    rcases List.mem_cons.mp (pm.mem_iff.mp hp) with e | z
    · exact List.mem_append_right _ (List.mem_singleton.mpr e)
    · exact List.mem_append_left _ (g.sub p z)
  · intro p hp
    rw [(pm.map (·.2)).mem_iff, List.map_cons]
    rw [take_one h] at hp
    rcases List.mem_append.mp hp with z | z
    · exact List.mem_cons_of_mem _ (g.all p z)
    · rw [List.mem_singleton.mp z]; exact List.mem_cons_self
section
variable {P : Program} {w : World} {A : Around} {E : Value → Shared → Prop} {s : Shared}
theorem TSt.keep {h h' : Heap} {a : Addr} {L : List Mem} {es : Array (Int × Value)} {ep : Nat} {t : SetTable} (R : TSt P w h a L es ep t) (ka : ∀ o, h.get? a = some o → h'.get? a = some o) (ht : ∀ p ∈ L, TuK P w h' p.2 p.1) : TSt P w h' a L es ep t :=
  let ⟨o, ho, r⟩ := R.ob
  ⟨⟨o, ka o ho, r⟩, R.es, R.tb, R.nd, ht, R.ld, R.rm, R.fw⟩
end
end RK
namespace DL
open PySem PySem.Spec PyProof.Rows L2 RK
section
variable {X : Cx} {F : Fx} {e : Expr} {d : TDE} {pos p : Pos}
end
end DL
namespace RK
open PySem PySem.Spec PyProof.Rows L2
section
variable {prog : Program} {w : World} {A : Around} {R : Result → Shared → Prop} {s : Shared} {ev x0 l0 x1 l1 : Expr} {c0 c1 : List Expr} {sco : Scope} {pos : Pos} {it acc : Value} {env : Env}
abbrev sc2 (ev x0 l0 x1 l1 : Expr) (c0 c1 : List Expr) (sco : Scope) (pos : Pos) : Expr := .SetComp ev [⟨x0, l0, c0, 0⟩, ⟨x1, l1, c1, 0⟩] sco pos
abbrev tstS (cs : List Expr) (env : Env) : Sem Bool := forIn cs true fun z g => if g = true then do let b ← isTrue z env (eval z env); pure (ForInStep.yield b) else pure (ForInStep.yield g)
abbrev nb (prog : Program) (w : World) (A : Around) (env : Env) (R : Result → Shared → Prop) : Value → Shared → Prop := notedBy (model prog w) A env fun e s' => R (.error e) s'
end
def Has (w : World) (h : Heap) (D : Addr) (acc : List Int) : Prop := ∃ n, SetR w h D (fun k => decide (k ∈ acc)) n ∧ n ≤ acc.length
theorem Has.keep {w : World} {h h' : Heap} {D : Addr} {acc : List Int} (R : Has w h D acc) (k : ∀ o, h.get? D = some o → h'.get? D = some o) : Has w h' D acc := let ⟨n, r, l⟩ := R; ⟨n, r.at k, l⟩
theorem Has.ob {w : World} {h : Heap} {D : Addr} {acc : List Int} (R : Has w h D acc) : ∃ o, h.get? D = some o ∧ ∀ v, o.data ≠ .cell v := by
  obtain ⟨n, ⟨o, es, ep, t, ho, _, hd, _⟩, _⟩ := R
  exact ⟨o, ho, fun v z => by rw [hd] at z; cases z⟩
section
variable {X Y : Cx} {pins ps : List (Addr × Obj)} {σ τ : L2.St} {s0 s : Shared} {H0 H : Hp} {sco : Scope} {own : List (Str × Nat)} {D : Addr} {acc : List Int} {fp : List Addr}
end
end RK
namespace RK
open PySem PySem.Spec PyProof.Rows L2
section
variable {P : Program} {w : World} {A : Around} {E : Value → Shared → Prop} {s : Shared}
end
end RK
namespace DL
open PySem PySem.Spec PyProof.Rows L2 RK
section
variable {X : Cx} {F : Fx} {e : Expr} {d : TDE} {pos p : Pos}
end
section
variable {F : Fx} {env : De} {σ : L2.St} {L : List Addr} {H H' : Hp} {d : Addr} {kvs : List (Key × V)}
end
end DL
namespace DL
open PySem PySem.Spec PyProof.Rows L2 RK
section
variable {X : Cx} {F : Fx} {c : Expr} {pos : Pos} {i j : Nat} {sa rest : List Stmt} {r r2 : TDS} {t : TDT}
end
end DL
namespace DL
open PySem PySem.Spec PyProof.Rows L2 RK
section
variable {X : Cx} {F : Fx} {a b c : Expr} {d da db dc : TDE} {pos p : Pos} {kk : Nat}
end
end DL
namespace DL
open PySem PySem.Spec PyProof.Rows L2 RK
section
variable {F : Fx} {da db : TDE} {i j : Nat} {K : PySem.W.Frag}
end
end DL
namespace DL
open PySem PySem.Spec PyProof.Rows L2 RK
section
variable {F : Fx} {da db dx dy : TDE} {i : Nat}
variable {j : Nat} {K : PySem.W.Frag}
end
end DL
namespace DL
open PySem PySem.Spec PyProof.Rows L2 RK
section
variable {F : Fx} {env : De} {σ : L2.St} {L L' : List Addr} {H H' : Hp}
theorem EnOk.pres (A : Abs F env σ L H) (pr : Pres F L H L' H') : ∀ {e : En} {x : Option V}, (∀ a, x = some (.ref a) → e.isOw = true → a ∈ L → a ∈ L' ∧ ∀ o, H a = some o → H' a = some o) → (∀ b ∈ e.ad, b ∈ L → b ∈ L' ∧ ∀ o, H b = some o → H' b = some o) → EnOk F L H e x → EnOk F L' H' e x
  | .no, _, _, _, _ => trivial
  | .fz d, some v, _, _, h => Dd.pres pr h
  | .oo C a fs, some (.ref b), _, g, ⟨h1, h2, h3, dx, vs, h4, h5⟩ => ⟨h1, fun x hx => (g x hx (h2 x hx)).1, h3, dx, vs, (g a List.mem_cons_self (h2 a List.mem_cons_self)).2 _ h4, h5.pres pr fun x hx => (g x (List.mem_cons_of_mem _ hx) (h2 x (List.mem_cons_of_mem _ hx))).2⟩
  | .fe e, some v, _, g, ⟨h2, h3, h4⟩ => ⟨fun x hx => (g x hx (h2 x hx)).1, h3, h4.pres pr fun x hx => (g x hx (h2 x hx)).2⟩
  | .ow ds, some (.ref a), g, _, ⟨h1, vs, h2, h3⟩ => let ⟨g1, g2⟩ := g a rfl rfl h1; ⟨g1, vs, g2 _ h2, DdAll.pres pr h3⟩
  | .od ds, some (.ref a), g, _, ⟨h1, vs, h2, h4, h3⟩ => let ⟨g1, g2⟩ := g a rfl rfl h1; ⟨g1, vs, g2 _ h2, h4, DdAll.pres pr h3⟩
  | .ot ds, some (.ref a), g, _, ⟨h1, vs, h2, h4, h3⟩ => let ⟨g1, g2⟩ := g a rfl rfl h1; ⟨g1, vs, g2 _ h2, h4, DdAll.pres pr h3⟩
  | .otr G ds, some (.ref a), g, _, ⟨h1, vs, h2, h3⟩ => let ⟨g1, g2⟩ := g a rfl rfl h1; ⟨g1, vs, g2 _ h2, h3.pres pr⟩
end
section
variable {X : Cx} {F : Fx} {o value : Expr} {f : Str} {pos pos' : Pos} {i : Nat} {C : Addr} {d dk dv : TDE}
end
end DL
namespace DL
open PySem PySem.Spec PyProof.Rows L2 RK
section
variable {F : Fx} {env : De} {σ : L2.St} {L L' : List Addr} {H H' : Hp}
end
section
variable {X : Cx} {F : Fx} {o e value : Expr} {f : Str} {pos pos' fpos : Pos} {i : Nat} {C : Addr} {d dk dv : TDE}
end
end DL
namespace DL
open PySem PySem.Spec PyProof.Rows L2 RK
abbrev DSpO := List (Str × Fe) → List D → (List (Str × Fe) → Prop) → Prop
structure ObEnd (K : PySem.W.Frag) (W : Wd) (N0 : Addr → Prop) (C a : Addr) (ft : List Addr) (H : Hp) (fs' : List (Str × Fe)) (H' : Hp) : Prop where
  ok : W.ok H'
  kp : ∀ x o, x ∉ ft → ¬ W.own x → H x = some o → H' x = some o
  en : ∃ L', (∀ x ∈ L', x ∈ ft ∨ H x = none) ∧ (∀ x ∈ L', ∃ o, H' x = some o ∧ Plo o) ∧ EnOk ⟨K, W, N0, H, .b false⟩ L' H' (.oo C a fs') (some (.ref a))
def PO (C a : Addr) (P : List (Str × Fe) → Prop) : De → Prop := fun env => ∃ fs', env[0]? = some (.oo C a fs') ∧ P fs'
section
variable {X : Cx} {F : Fx} {pos : Pos} {e : Expr} {d : TDE} {PB : De → Prop}
end
section
variable {F : Fx} {X : Cx} {env : De} {σ : L2.St} {L : List Addr} {H : Hp}
end
end DL
namespace DL
open PySem PySem.Spec PyProof.Rows L2 RK
section
variable {X : Cx} {F : Fx} {o e : Expr} {es : List Expr} {ds : TDA} {m : Str} {pos cpos apos p : Pos} {i : Nat} {C f : Addr} {CX : CXT} {k : Nat} {fd : FuncData} {ps : List Str} {sp : DSpO} {E : XK} {K : PySem.W.Frag}
end
end DL
namespace RK
open PySem PySem.Spec PyProof.Rows L2 DL
section
variable {prog : Program} {w : World} {d : Addr} {es : Array DictEntry} {ep : Nat}
end
section
variable {X : Cx}
end
end RK
namespace DL
open PySem PySem.Spec PyProof.Rows L2 RK
section
variable {X : Cx} {F : Fx} {e : Expr} {d : TDE} {p pos : Pos}
end
end DL
namespace DL
open PySem PySem.Spec PyProof.Rows L2 RK
section
variable {F : Fx} {da db dc : TDE} {i j l : Nat}
end
end DL
namespace DL
open PySem PySem.Spec PyProof.Rows L2 RK
section
variable {F : Fx} {env : De} {σ : L2.St} {L L' : List Addr} {H H' : Hp}
section
variable {N : Addr → Prop} {K : PySem.W.Frag} {W : Wd}
end
mutual
def D.pure : D → Bool
  | .non => true | .bl _ => true | .int _ => true | .str _ => true
  | .tup xs => D.pureL xs
  | .ktp xs => D.pureL xs
  | _ => false
def D.pureL : List D → Bool
  | [] => true
  | x :: xs => x.pure && D.pureL xs
end
mutual
theorem pure_dd {N N' : Addr → Prop} {K : PySem.W.Frag} {W : Wd} (nt : ∀ x vs, H x = some (.tup vs) → ¬ N' x) : ∀ {v : V} {d : D}, d.pure = true → Dd K N W H v d → Dd K N' W H v d
  | _, _, _, .non => .non
  | _, _, _, .bl b => .bl b
  | _, _, _, .int i => .int i
  | _, _, _, .str x => .str x
  | _, _, p, .tup h _ a => .tup h (nt _ _ h) (pure_ddL nt (by unfold D.pure at p; exact p) a)
  | _, _, p, .ktp h1 h2 h3 h4 h5 a => .ktp h1 h2 h3 h4 h5 (pure_ddL nt (by unfold D.pure at p; exact p) a)
  | _, _, p, .lst _ _ _ => by unfold D.pure at p; cases p
  | _, _, p, .dic _ _ _ _ => by unfold D.pure at p; cases p
  | _, _, p, .dct _ _ _ _ => by unfold D.pure at p; cases p
  | _, _, p, .obj _ _ _ _ => by unfold D.pure at p; cases p
  | _, _, p, .bag _ => by unfold D.pure at p; cases p
  | _, _, p, .fn _ _ => by unfold D.pure at p; cases p
  | _, _, p, .tr _ _ _ => by unfold D.pure at p; cases p
theorem pure_ddL {N N' : Addr → Prop} {K : PySem.W.Frag} {W : Wd} (nt : ∀ x vs, H x = some (.tup vs) → ¬ N' x) : ∀ {vs : List V} {ds : List D}, D.pureL ds = true → DdAll K N W H vs ds → DdAll K N' W H vs ds
  | _, _, _, .nil => .nil
  | _, _, p, .cons h a => by
    unfold D.pureL at p
    rw [Bool.and_eq_true] at p
    exact .cons (pure_dd nt p.1 h) (pure_ddL nt p.2 a)
end
theorem Abs.noTp (A : Abs F env σ L H) : ∀ x vs, H x = some (.tup vs) → ¬ F.N L x := fun x vs h z => by
  obtain ⟨o, e⟩ := A.alN z
  rw [h] at e
  exact (Option.some.inj e ▸ o.2 : Nt (.tup vs))
end
end DL
namespace DL
open PySem PySem.Spec PyProof.Rows L2 RK
def icAd (cs : List (Key × Ic)) : List Addr := cs.flatMap (·.2.ad)
section
variable {F : Fx} {env : De} {σ : L2.St} {L L' : List Addr} {H H' : Hp}
end
section
variable {X : Cx} {F : Fx} {o e value : Expr} {key : Str} {pos pos' pos2 : Pos} {i : Nat} {d dk dv : TDE}
end
end DL
namespace DL
open PySem PySem.Spec PyProof.Rows L2 RK
section
variable {X : Cx} {F : Fx} {o e value : Expr} {key : Str} {pos pos' pos2 pos3 : Pos} {i : Nat} {d dk dv : TDE}
end
end DL
namespace DL
open PySem PySem.Spec PyProof.Rows L2 RK
inductive Itm where
  | c (d : TDE) | n (d : TDE)
def icO (a : Addr) : D → Ic
  | .lst xs => .lst a xs
  | .dic k => .dic a k
  | .dct k => .dct a k
  | x => .fz x
def mkCs : List (Str × Itm) → List D → List Addr → List (Key × Ic)
  | (k, .c _) :: r, x :: xs, _ :: as => (Sum.inr k, .fz x) :: mkCs r xs as
  | (k, .n _) :: r, x :: xs, a :: as => (Sum.inr k, icO a x) :: mkCs r xs as
  | _, _, _ => []
def Itm.t (F : Fx) : Itm → TE
  | .c d => lC F d
  | .n d => lN F d
section
variable {F : Fx} {env : De} {σ : L2.St}
structure Held (F : Fx) (env : De) (σ : L2.St) (L : List Addr) (H : Hp) (ps : List (Str × Itm)) (xs : List D) (as : List Addr) (vs : List (Key × V)) (L' : List Addr) (H' : Hp) : Prop where
  ab : Abs F env σ L' H'
  kp : KeepW F.W H H'
  sub : ∀ x ∈ L, x ∈ L'
  pr : Pres F L H L' H'
  lx : xs.length = ps.length
  la : as.length = ps.length
  ic : IcAll F L' H' vs (mkCs ps xs as)
  lo : ∀ x ∈ icAd (mkCs ps xs as), x ∈ L' ∧ x ∉ L ∧ Lone env σ x
  nd : (icAd (mkCs ps xs as)).Nodup
variable {X : Cx} {pos : Pos} {keys : List (Option Expr)} {values : List Expr} {ps : List (Str × Itm)}
end
end DL
namespace DL
open PySem PySem.Spec PyProof.Rows L2 RK
abbrev TDB := De → (De → Prop) → Prop
section
variable {X : Cx} {F : Fx} {o e e1 e2 c : Expr} {es : List Expr} {ds : TDA} {m : Str} {pos cpos apos p : Pos} {i : Nat} {C f : Addr} {CX : CXT} {k : Nat} {fd : FuncData} {ps : List Str} {sp : DSpO} {E : XK} {K : PySem.W.Frag} {da db : TDB} {t : TDT} {PB : De → Prop}
end
end DL
namespace DL
open PySem PySem.Spec PyProof.Rows L2 RK
section
variable {X : Cx} {F : Fx} {e : Expr} {i : Nat} {pos p apos cpos : Pos}
variable {o f : Expr} {d dk dv : TDE}
end
end DL
namespace DL
open PySem PySem.Spec PyProof.Rows L2 RK
section
variable {X : Cx} {F : Fx} {e : Expr} {es : List Expr} {ds dk : TDA} {pos p : Pos} {CX : CXT} {k n m : Nat} {f : Addr} {fd : FuncData} {ps ks : List Str} {sp : DSpX} {E : XK} {x : Str} {fr : Fr} {K : PySem.W.Frag} {PX : Er → Prop}
end
end DL
namespace DL
open PySem PySem.Spec PyProof.Rows L2 RK
section
variable {X : Cx} {F : Fx} {e : Expr} {es : List Expr} {ds dk : TDA} {pos p : Pos} {CX : CXT} {k n m : Nat} {f : Addr} {fd : FuncData} {ps ks : List Str} {E : XK} {x : Str} {fr : Fr} {K : PySem.W.Frag} {PX : Er → Prop} {g : List Value → List Value → List Value} {gV : List V → List V → List V} {gD : List D → List D → List D} {kws : List Keyword}
end
end DL
namespace DL
open PySem PySem.Spec PyProof.Rows L2 RK
abbrev TrL := List (BKey × Option BKey)
section
variable {N : Addr → Prop} {H : Hp} {K : PySem.W.Frag} {W : Wd}
end
section
variable {X : Cx} {F : Fx} {a b o e value : Expr} {da db dk dv : TDE} {pos pos' : Pos} {k : Nat} {i : Nat}
abbrev GX (X : Cx) : GdF := fun _ => Cx.G X
end
end DL
namespace DL
open PySem PySem.Spec PyProof.Rows L2 RK
inductive Emp where
  | lst | dic
def Emp.ho : Emp → HO
  | .lst => .lst []
  | .dic => .dK []
def Emp.d : Emp → D
  | .lst => .lst []
  | .dic => .dic []
def Emp.ic (a : Addr) : Emp → Ic
  | .lst => .lst a []
  | .dic => .dic a []
abbrev TDKs := De → (List Key → Prop) → Prop
structure HeldE (F : Fx) (env : De) (σ : L2.St) (L : List Addr) (H : Hp) (e : Emp) (ks : List Key) (as : List Addr) (b : Addr) (us : List (Key × V)) (L' : List Addr) (H' : Hp) : Prop where
  ab : Abs F env σ L' H'
  kp : KeepW F.W H H'
  pr : Pres F L H L' H'
  sub : ∀ x ∈ L, x ∈ L'
  old : ∀ x ∈ L', x ∈ L ∨ H x = none
  hb : H' b = some (.dK us)
  hk : us.map (·.1) = ks
  hu : us.map (·.2) = as.map V.ref
  ha : ∀ a ∈ as, H' a = some e.ho
  nd : (b :: as).Nodup
  inL : ∀ x ∈ b :: as, x ∈ L'
  fresh : ∀ x ∈ b :: as, H x = none
  nk : ks.Nodup
  la : as.length = ks.length
end DL
namespace DL
open PySem PySem.Spec PyProof.Rows L2 RK
def lP (F : Fx) (d : TDE) : TE := fun σ H Q => ∃ env L P, Abs F env σ L H ∧ d env P ∧ ∀ x v H', P x → KeepW F.W H H' → F.W.ok H' → Dd F.K (starN (F.N L) H) F.W H' v x → Q v H'
section
variable {X : Cx} {F : Fx} {e o a : Expr} {es : List Expr} {d : TDE} {ds : TDA} {pos p : Pos} {i j : Nat} {env : De} {σ : L2.St} {L : List Addr} {H H' : Hp}
theorem star_step (A : Abs F env σ L H) (k : KeepW F.W H H') {x : Addr} (h : starN (F.N L) H x) : starN (F.N L) H' x := by
  rcases h with h | ⟨o, h1, h2⟩
  · exact .inl h
  · by_cases w : F.W.own x
    · exact .inl (.inl (A.wn x w))
    · exact .inr ⟨o, k x o w h1, h2⟩
theorem star_entry (A : Abs F env σ L H) {x : Addr} (h : starN F.N0 F.H0 x) : starN (F.N L) H x := by
  rcases h with h | ⟨o, h1, h2⟩
  · exact .inl (.inl h)
  · by_cases w : F.W.own x
    · exact .inl (.inl (A.wn x w))
    · exact .inr ⟨o, A.kp x o w h1, h2⟩
def D.shal : D → Bool
  | .lst xs => D.pureL xs
  | .dic k => D.pureL (k.map (·.2))
  | .dct k => D.pureL (k.map (·.2))
  | _ => false
theorem no_star (A : Abs F env σ L H) : ∀ x vs, H x = some (.tup vs) → ¬ starN F.N0 F.H0 x := fun x vs h z => by
  rcases z with z | ⟨o, z, n⟩
  · exact A.noTp x vs h (.inl z)
  · by_cases w : F.W.own x
    · exact A.noTp x vs h (.inl (A.wn x w))
    · have := A.kp x o w z
      rw [h] at this
      cases this
      exact n
end
end DL
namespace DL
open PySem PySem.Spec PyProof.Rows L2 RK
section
variable {X : Cx} {F : Fx} {e o a e1 e2 value : Expr} {es : List Expr} {d dv dk dk1 dk2 : TDE} {ds : TDA} {pos p pos' : Pos} {i j : Nat} {f : Str} {C : Addr}
end
end DL
namespace DL
open PySem PySem.Spec PyProof.Rows L2 RK
section
variable {F : Fx} {env : De} {σ : L2.St} {L L' : List Addr} {H H' : Hp}
end
section
variable {X : Cx} {F : Fx} {o e e1 e2 value : Expr} {f : Str} {pos pos' fpos p2 : Pos} {i : Nat} {C : Addr} {d dk dk1 dk2 dv : TDE}
end
end DL
namespace DL
open PySem PySem.Spec PyProof.Rows L2 RK
section
variable {F : Fx} {env : De} {σ : L2.St} {L : List Addr} {H H' : Hp} {d : Addr} {kvs : List (Key × V)}
theorem IcOk.lk {F' : Fx} (hK : F'.K = F.K) (hW : F'.W = F.W) (hN : F'.N0 = F.N0) (h : LkR H H' d kvs) : ∀ {c : Ic} {v : V}, (∀ a ∈ c.ad, a ≠ d) → IcOk F L H c v → IcOk F' L H' c v := by
  have e : ∀ L, F'.N L = F.N L := fun L => by unfold Fx.N; rw [hN]
  intro c v n q
  cases c with
  | fz x => show Dd F'.K (F'.N L) F'.W H' v x; rw [hK, hW, e]; exact Dd.lk h q
  | lst a ds => obtain ⟨h1, vs, h2, h3⟩ := q; exact ⟨h1, vs, by rw [h.o a (n a List.mem_cons_self)]; exact h2, by rw [hK, hW, e]; exact DdAll.lk h h3⟩
  | dic a ds => obtain ⟨h1, vs, h2, h4, h3⟩ := q; exact ⟨h1, vs, by rw [h.o a (n a List.mem_cons_self)]; exact h2, h4, by rw [hK, hW, e]; exact DdAll.lk h h3⟩
  | dct a ds => obtain ⟨h1, vs, h2, h4, h3⟩ := q; exact ⟨h1, vs, by rw [h.o a (n a List.mem_cons_self)]; exact h2, h4, by rw [hK, hW, e]; exact DdAll.lk h h3⟩
theorem IcAll.lk {F' : Fx} (hK : F'.K = F.K) (hW : F'.W = F.W) (hN : F'.N0 = F.N0) (h : LkR H H' d kvs) : ∀ {cs : List (Key × Ic)} {vs : List (Key × V)}, (∀ a ∈ cs.flatMap (·.2.ad), a ≠ d) → IcAll F L H vs cs → IcAll F' L H' vs cs
  | [], [], _, _ => trivial
  | [], _ :: _, _, q => q.elim
  | _ :: _, [], _, q => q.elim
  | (k', c) :: cs, (k, v) :: vs, n, ⟨h1, h2, h3⟩ => ⟨h1, IcOk.lk hK hW hN h (fun a ha => n a (by rw [List.flatMap_cons]; exact List.mem_append_left _ ha)) h2, IcAll.lk hK hW hN h (fun a ha => n a (by rw [List.flatMap_cons]; exact List.mem_append_right _ ha)) h3⟩
theorem FeOk.lk {F' : Fx} (hK : F'.K = F.K) (hW : F'.W = F.W) (hN : F'.N0 = F.N0) (h : LkR H H' d kvs) : ∀ {c : Fe} {v : V}, (∀ a ∈ c.ad, a ≠ d) → FeOk F L H c v → FeOk F' L H' c v := by
  have e : ∀ L, F'.N L = F.N L := fun L => by unfold Fx.N; rw [hN]
  intro c v n q
  cases c with
  | fz x => show Dd F'.K (F'.N L) F'.W H' v x; rw [hK, hW, e]; exact Dd.lk h q
  | ow a ds => obtain ⟨h1, vs, h2, h3⟩ := q; exact ⟨h1, vs, by rw [h.o a (n a List.mem_cons_self)]; exact h2, by rw [hK, hW, e]; exact DdAll.lk h h3⟩
  | od a ds => obtain ⟨h1, vs, h2, h4, h3⟩ := q; exact ⟨h1, vs, by rw [h.o a (n a List.mem_cons_self)]; exact h2, h4, by rw [hK, hW, e]; exact DdAll.lk h h3⟩
  | ot a ds => obtain ⟨h1, vs, h2, h4, h3⟩ := q; exact ⟨h1, vs, by rw [h.o a (n a List.mem_cons_self)]; exact h2, h4, by rw [hK, hW, e]; exact DdAll.lk h h3⟩
  | on a cs => obtain ⟨h1, vs, h2, h3⟩ := q; exact ⟨h1, vs, by rw [h.o a (n a List.mem_cons_self)]; exact h2, h3.lk hK hW hN h fun x hx => n x (List.mem_cons_of_mem _ hx)⟩
theorem EnOk.lk {F' : Fx} (hK : F'.K = F.K) (hW : F'.W = F.W) (hN : F'.N0 = F.N0) (h : LkR H H' d kvs) (nL : ∀ a ∈ L, a ≠ d) : ∀ {en : En} {x : Option V}, EnOk F L H en x → EnOk F' L H' en x := by
  have e : ∀ L, F'.N L = F.N L := fun L => by unfold Fx.N; rw [hN]
  intro en x q
  cases en with
  | no => trivial
  | fz y => cases x with
    | none => exact q.elim
    | some v => show Dd F'.K (F'.N L) F'.W H' v y; rw [hK, hW, e]; exact Dd.lk h q
  | ow ds => cases x with
    | none => exact q.elim
    | some v => cases v with
      | ref a => obtain ⟨h1, vs, h2, h3⟩ := q; exact ⟨h1, vs, by rw [h.o a (nL a h1)]; exact h2, by rw [hK, hW, e]; exact DdAll.lk h h3⟩
      | _ => exact q.elim
  | od ds => cases x with
    | none => exact q.elim
    | some v => cases v with
      | ref a => obtain ⟨h1, vs, h2, h4, h3⟩ := q; exact ⟨h1, vs, by rw [h.o a (nL a h1)]; exact h2, h4, by rw [hK, hW, e]; exact DdAll.lk h h3⟩
      | _ => exact q.elim
  | ot ds => cases x with
    | none => exact q.elim
    | some v => cases v with
      | ref a => obtain ⟨h1, vs, h2, h4, h3⟩ := q; exact ⟨h1, vs, by rw [h.o a (nL a h1)]; exact h2, h4, by rw [hK, hW, e]; exact DdAll.lk h h3⟩
      | _ => exact q.elim
  | otr G ds => cases x with
    | none => exact q.elim
    | some v => cases v with
      | ref a => obtain ⟨h1, vs, h2, h3⟩ := q; exact ⟨h1, vs, by rw [h.o a (nL a h1)]; exact h2, by rw [e]; exact h3.tup fun b vs e => h.keep e fun o => ⟨fun z => (by cases z), fun z => (by cases z)⟩⟩
      | _ => exact q.elim
  | oo C a fs => cases x with
    | none => exact q.elim
    | some v => cases v with
      | ref b =>
        obtain ⟨h1, h2, h3, dx, vs, h4, h5⟩ := q
        exact ⟨h1, h2, h3, dx, vs, by rw [h.o a (nL a (h2 a List.mem_cons_self))]; exact h4, h5.1, fun i f c hi => let ⟨w, g1, g2⟩ := h5.2 i f c hi; ⟨w, g1, g2.lk hK hW hN h fun y hy => nL y (h2 y (List.mem_cons_of_mem _ (fe_mem hi hy)))⟩⟩
      | _ => exact q.elim
  | fe c => cases x with
    | none => exact q.elim
    | some v => exact ⟨q.1, q.2.1, q.2.2.lk hK hW hN h fun y hy => nL y (q.1 y hy)⟩
open Classical in
noncomputable def relockH (H0 H' : Hp) (d : Addr) : Hp := fun a => if a = d then (match H0 d with | none => none | some _ => H' d) else H0 a
end
inductive Pth where
  | sl (i : Nat) | fl (C : Addr) (i : Nat) (f : Str) | ix (C : Addr) (i : Nat) (f : Str) (j : Nat)
def flD (env : De) (C : Addr) (i : Nat) (f : Str) : Option D := match env[i]? with
  | some (.fz (.obj C' fs)) => if C' = C then fs.lookup f else none
  | _ => none
def slD (env : De) (i : Nat) : Option D := match env[i]? with
  | some (.fz d) => some d
  | _ => none
def Pth.d (env : De) : Pth → Option D
  | .sl i => slD env i
  | .fl C i f => flD env C i f
  | .ix C i f j => (flD env C i f).bind fun x => (slD env j).bind fun y => (getD x y).bind fun z => z
def Pth.t (K : PySem.W.Frag) : Pth → TE
  | .sl i => tVar i
  | .fl _ i f => tFld K (tVar i) f
  | .ix _ i f j => tDGet (tFld K (tVar i) f) (tVar j)
def Pth.ok (K : PySem.W.Frag) : Pth → Prop
  | .sl _ => True
  | .fl C _ f => L2.Cls K C ∧ NoAttr K C f
  | .ix C _ f _ => L2.Cls K C ∧ NoAttr K C f
section
variable {F : Fx} {env : De} {σ : L2.St} {L : List Addr} {H H2 : Hp} {d : Addr} {kvs : List (Key × V)}
theorem PS.or2 {X : Cx} {st : Stmt} {t t' : TS} (h : PS X st t) (h' : PS X st t') : PS X st (fun E σ H => t E σ H ∨ t' E σ H) := ⟨fun pins s σ H E I q => by
  rcases q with q | q
  · exact h.run pins s σ H E I q
  · exact h'.run pins s σ H E I q⟩
theorem PS.ex {X : Cx} {st : Stmt} {α : Type} {t : α → TS} (h : ∀ a, PS X st (t a)) : PS X st (fun E σ H => ∃ a, t a E σ H) := ⟨fun pins s σ H E I ⟨a, q⟩ => (h a).run pins s σ H E I q⟩
abbrev Fx.at (F : Fx) (H0 : Hp) : Fx := ⟨F.K, F.W, F.N0, H0, .b false⟩
end
end DL
namespace RK
open PySem PySem.Spec PyProof.Rows L2
section
variable {prog : Program} {w : World} {A : Around} {R : Result → Shared → Prop} {s : Shared} {kx vx x0 l0 x1 l1 : Expr} {c0 c1 : List Expr} {sco : Scope} {pos : Pos} {it acc : Value} {env : Env}
abbrev dc2 (kx vx x0 l0 x1 l1 : Expr) (c0 c1 : List Expr) (sco : Scope) (pos : Pos) : Expr := .DictComp kx vx [⟨x0, l0, c0, 0⟩, ⟨x1, l1, c1, 0⟩] sco pos
abbrev tstD (cs : List Expr) (env : Env) : Sem Bool := forIn cs true fun z g => if g = true then do let b ← isTrue z env (eval z env); pure (ForInStep.yield b) else pure (ForInStep.yield g)
abbrev nbD (prog : Program) (w : World) (A : Around) (env : Env) (R : Result → Shared → Prop) : Value → Shared → Prop := notedBy (model prog w) A env fun e s' => R (.error e) s'
end
section
variable {X : Cx} {pins : List (Addr × Obj)} {σ τ : L2.St} {s0 s : Shared} {H0 H : Hp} {sco : Scope} {own : List (Str × Nat)} {J : It} {fp : List Addr} {it : Addr} {tn : Nat → Heap → Prop} {i : Nat}
end
end RK
namespace DL
open PySem PySem.Spec PyProof.Rows L2 RK
section
variable {F : Fx} {env : De} {σ : L2.St} {L : List Addr} {H : Hp} {d : Addr} {kvs : List (Key × V)}
end
end DL
namespace DL
open PySem PySem.Spec PyProof.Rows L2 RK
section
variable {X : Cx} {F : Fx} {p : Pth} {tg iter e : Expr} {S vs : List Nat} {g : TDG} {tt : TDT} {te tk tv : TDE}
end
end DL
namespace DL
open PySem PySem.Spec PyProof.Rows L2 RK LamX
section
variable {F : Fx} {ec : ErCl} {d : (Er → Prop) → TDE} {CD CM CL : Addr} {b s : Addr} {T : List (Addr × Str)}
end
end DL
namespace DL
open PySem PySem.Spec PyProof.Rows L2 RK
abbrev DSpOX := List (Str × Fe) → List D → (List (Str × Fe) → Prop) → (Er → Prop) → Prop
section
variable {X : Cx} {F : Fx} {o e : Expr} {es : List Expr} {ds : TDA} {m : Str} {pos cpos apos p : Pos} {i : Nat} {C f : Addr} {CX : CXT} {k : Nat} {fd : FuncData} {ps : List Str} {sp : DSpOX} {E : XK} {K : PySem.W.Frag} {PX : Er → Prop}
end
end DL
namespace DL
open PySem PySem.Spec PyProof.Rows L2 RK LamX
end DL
namespace DL
open PySem PySem.Spec PyProof.Rows L2 RK
def pkI (k : Int) (n : Nat) : List Nat := sliceRange (sliceBounds none none (some k) n).1 (sliceBounds none none (some k) n).2.1 (sliceBounds none none (some k) n).2.2
def stepL {α : Type} (k : Int) (xs : List α) : List α := (pkI k xs.length).filterMap (xs[·]?)
theorem DdAll.step {K : PySem.W.Frag} {N : Addr → Prop} {W : Wd} {H : Hp} {vs : List V} {ds : List D} (a : DdAll K N W H vs ds) (k : Int) : DdAll K N W H (stepL k vs) (stepL k ds) := by
  unfold stepL
  rw [a.len]
  have key : ∀ js : List Nat, DdAll K N W H (js.filterMap (vs[·]?)) (js.filterMap (ds[·]?)) := fun js => by
    induction js with
    | nil => exact .nil
    | cons i js ih =>
      rw [List.filterMap_cons, List.filterMap_cons]
      cases hx : ds[i]? with
      | none =>
        have : vs[i]? = none := List.getElem?_eq_none (by rw [a.len]; exact List.getElem?_eq_none_iff.mp hx)
        rw [this]
        exact ih
      | some x =>
        obtain ⟨v, hv, r⟩ := a.get hx
        rw [hv]
        exact .cons r ih
  exact key _
section
variable {X : Cx} {F : Fx} {e : Expr} {d : TDE} {pos : Pos}
end
end DL
namespace DL
open PySem PySem.Spec PyProof.Rows L2 RK
section
variable {X : Cx} {F : Fx} {e : Expr} {d : TDE} {pos : Pos}
end
end DL
namespace RK
open PySem PySem.Spec PyProof.Rows L2 PySem.W PySem.Calls
def ZSt (z TI TO i1 i2 l1 l2 S : Addr) (xs ys : Array Value) (i : Nat) (h : Heap) : Prop := IsPair h TI (.ref i1) (.ref i2) ∧ h.IsListIter i1 l1 i ∧ h.IsListIter i2 l2 i ∧ h.IsList l1 xs ∧ h.IsList l2 ys ∧
  ((IsZip h z TI TO .none ∧ ∃ a b, IsPair h TO a b) ∨ ∃ T f oT, IsZipHeld h z TI TO T f ∧ h.get? T = some oT ∧ T ≠ z ∧ T ≠ i1 ∧ T ≠ i2 ∧ T ≠ S)
structure ZLow (z TI TO i1 i2 l1 l2 S : Addr) : Prop where
  z : z < S
  TI : TI < S
  TO : TO < S
  i1 : i1 < S
  i2 : i2 < S
  l1 : l1 < S
  l2 : l2 < S
structure ZG (xs ys : Array Value) (lo : Addr) (h : Heap) (as : List Addr) : Prop where
  rise : as.Pairwise (· < ·)
  above : ∀ a ∈ as, lo < a
  pairs : ∀ (j : Nat) (a : Addr), as[j]? = some a → ∃ x y, xs[j]? = some x ∧ ys[j]? = some y ∧ h.get? a = some { cls := .type "tuple", data := .seq #[x, y] }
section
variable {prog : Program} {w : World} {A : Around} {s : Shared} {R : Result → Shared → Prop} {E : Value → Shared → Prop} {z TI TO i1 i2 l1 l2 S : Addr} {xs ys : Array Value} {h h' : Heap} {i : Nat}
theorem ZSt.keep (st : ZSt z TI TO i1 i2 l1 l2 S xs ys i h) (D : ZLow z TI TO i1 i2 l1 l2 S) (hk : ∀ b o, b ≠ S → h.get? b = some o → h'.get? b = some o) : ZSt z TI TO i1 i2 l1 l2 S xs ys i h' := by
  obtain ⟨hTI, h1, h2, hl1, hl2, hz⟩ := st
  refine ⟨hk _ _ (Nat.ne_of_lt D.TI) hTI, h1.at fun o e => hk _ o (Nat.ne_of_lt D.i1) e, h2.at fun o e => hk _ o (Nat.ne_of_lt D.i2) e, hl1.at fun o e => hk _ o (Nat.ne_of_lt D.l1) e, hl2.at fun o e => hk _ o (Nat.ne_of_lt D.l2) e, ?_⟩
  rcases hz with ⟨hz, a, b, hTO⟩ | ⟨T, f, oT, hz, hT, r1, r2, r3, r4⟩
  · exact .inl ⟨hk _ _ (Nat.ne_of_lt D.z) hz, a, b, hk _ _ (Nat.ne_of_lt D.TO) hTO⟩
  · exact .inr ⟨T, f, oT, hk _ _ (Nat.ne_of_lt D.z) hz, hk _ _ r4 hT, r1, r2, r3, r4⟩
theorem ZSt.type (st : ZSt z TI TO i1 i2 l1 l2 S xs ys i s.heap) : s.TypeIs (.ref z) "zip" := by
  obtain ⟨_, _, _, _, _, hz⟩ := st
  rcases hz with ⟨hz, _⟩ | ⟨T, f, oT, hz, _⟩
  · exact ⟨_, hz, rfl⟩
  · exact ⟨_, hz, rfl⟩
end
section
variable {X : Cx} {e e2 : Expr} {ta : TA} {p p2 pos pos2 : Pos}
end
end RK
namespace DL
open PySem PySem.Spec PyProof.Rows L2 RK
end DL
namespace DL
open PySem PySem.Spec PyProof.Rows L2 RK
section
variable {X : Cx}
end
section
variable {F : Fx} {d : TDE} {i : Nat}
end
end DL
namespace DL
open PySem PySem.Spec PyProof.Rows L2 RK
section
variable {F : Fx}
end
end DL
namespace DL
open PySem PySem.Spec PyProof.Rows L2 RK
section
variable {F : Fx} {da db dx dy : TDE} {i j : Nat}
end
section
variable {F : Fx}
end
end DL
namespace DL
open PySem PySem.Spec PyProof.Rows L2 RK
def gLoop (j : Nat) (c1 : TDT) (d1 : TDE) (c2 : TDT) (d2 : TDE) (R : D → Prop) (env : De) : List D → List D → Prop
  | [], acc => R (.lst acc)
  | x :: xs, acc => c1 (env.set j (.fz x)) fun b => if b = true then d1 (env.set j (.fz x)) fun y => acc.length < sizeLine ∧ gLoop j c1 d1 c2 d2 R env xs (acc ++ [y]) else c2 (env.set j (.fz x)) fun b2 => if b2 = true then d2 (env.set j (.fz x)) fun z => ∃ zs, z = .lst zs ∧ acc.length + zs.length ≤ sizeLine ∧ gLoop j c1 d1 c2 d2 R env xs (acc ++ zs) else gLoop j c1 d1 c2 d2 R env xs acc
def sGrow (i j : Nat) (it : TDI) (c1 : TDT) (d1 : TDE) (c2 : TDT) (d2 : TDE) : TDS := fun P env => i < env.length ∧ j < env.length ∧ it (env.set i .no) fun xs => gLoop j c1 d1 c2 d2 P.rt (env.set i .no) xs []
section
variable {X : Cx} {F : Fx} {i j : Nat} {it : TDI} {c1 c2 : TDT} {d1 d2 : TDE} {st1 st2 st3 : Stmt} {K : PySem.W.Frag}
theorem ds_grow (nf : F.fr = .pr) (hij : j ≠ i) (h1 : PS X st1 (tAsg (lN F (dLst aNil)) (gName i)))
    (h2 : PS X st2 (tFor (lI F it) (gName j) (tIfS (lT F c1) (tDrop (tBM K "list" rAppend (tVar i) (tCons (lP F d1) tNil))) (tIfS (lT F c2) (tDrop (tBM K "list" rExtend (tVar i) (tCons (lP F d2) tNil))) tNext))))
    (h3 : PS X st3 (tRet (tVar i))) : PSs X [st1, st2, st3] (lS F (sGrow i j it c1 d1 c2 d2)) := PSs.mono (pss_cons h1 (pss_cons h2 (pss_one h3))) fun E σ H ⟨env, L, P, A, ⟨il, jl, pp⟩, hn, hr, hb, hc⟩ => by
  refine ⟨env, L, fun x => x = .lst [], A, ?_, fun x t H1 px k1 o1 n1 nv => ?_⟩
  · exact ⟨Nat.zero_le _, rfl⟩
  subst px
  obtain ⟨vs0, ht0, hd0⟩ := nv
  cases hd0
  have B0 : Abs F (env.set i .no) (σ.set i (some (.ref t))) (t :: L) H1 := (A.hold (x := .lst []) k1 o1 n1 ⟨[], ht0, .nil⟩).setW (A.lone n1) (e := .no) trivial i rfl
  have tL : t ∈ t :: L := List.mem_cons_self
  have lo0 : Lone (env.set i .no) (σ.set i (some (.ref t))) t := by
    have lo := A.lone n1
    refine ⟨fun l el g1 g2 g3 => ?_, fun l el g1 => ?_⟩
    · by_cases e : i = l
      · subst e
        rw [List.getElem?_set_self il] at g1
        cases g1
        cases g2
      · rw [List.getElem?_set_ne e] at g1 g3
        exact lo.1 l el g1 g2 g3
    · by_cases e : i = l
      · subst e
        rw [List.getElem?_set_self il] at g1
        cases g1
        intro z
        cases z
      · rw [List.getElem?_set_ne e] at g1
        exact lo.2 l el g1
  have si0 : (σ.set i (some (.ref t)))[i]? = some (some (.ref t)) := List.getElem?_set_self (by rw [← A.ls]; exact il)
  clear hn hb hc
  show lI F it (σ.set i (some (.ref t))) H1 _
  generalize σ.set i (some (.ref t)) = σ0 at B0 lo0 si0
  have jl0 : j < (env.set i .no).length := by rw [List.length_set]; exact jl
  generalize env.set i .no = env0 at B0 lo0 jl0 pp
  refine ⟨env0, t :: L, _, B0, pp, fun xs J H2 px k2 o2 ok => ?_⟩
  have B2 := B0.step k2 o2
  have nt0 : ¬ F.W.own t := fun z => B0.out tL (B0.wn t z)
  have tn : ¬ starN F.N0 F.H0 t := fun z => by
    rcases z with z | ⟨o, z, _⟩
    · exact B0.out tL z
    · rw [(B0.fr t tL).1] at z; cases z
  refine ⟨fun k m σ' H' => ∃ env' acc vs, (∀ y, env'.set j y = env0.set j y) ∧ j < env'.length ∧ Abs F env' σ' (t :: L) H' ∧ Lone env' σ' t ∧ σ'[i]? = some (some (.ref t)) ∧ Pres F (t :: L) H2 (t :: L) H' ∧ H' t = some (.lst vs) ∧ DdAll F.K (fun a => starN F.N0 F.H0 a ∨ a = t) F.W H' vs acc ∧ gLoop j c1 d1 c2 d2 P.rt env0 (xs.drop k) acc ∧ k ≤ xs.length ∧ m = xs.length - k,
    ⟨_, env0, [], [], fun _ => rfl, jl0, B2, lo0, si0, .refl _ _ _, k2 t _ nt0 ht0, .nil, px, Nat.zero_le _, rfl⟩, ?_⟩
  rintro k m σ' H' ⟨env', acc, vs, es, jl', A', lo, si, pr, ht, hd, lp, hk, rfl⟩
  obtain ⟨st, go⟩ := ok (F.N (t :: L)) H' (fun a o n h => pr a o n h) (fun a h => A'.alO h) k
  by_cases hlt : k < xs.length
  · obtain ⟨g1, g2⟩ := go xs[k] (List.getElem?_eq_getElem hlt)
    rw [List.drop_eq_getElem_cons hlt] at lp
    refine .inr ⟨g1, fun σ2 H3 => ∃ env' acc vs, (∀ y, env'.set j y = env0.set j y) ∧ j < env'.length ∧ Abs F env' σ2 (t :: L) H3 ∧ Lone env' σ2 t ∧ σ2[i]? = some (some (.ref t)) ∧ Pres F (t :: L) H2 (t :: L) H3 ∧ H3 t = some (.lst vs) ∧ DdAll F.K (fun a => starN F.N0 F.H0 a ∨ a = t) F.W H3 vs acc ∧ gLoop j c1 d1 c2 d2 P.rt env0 (xs.drop (k + 1)) acc,
      fun σ2 H3 ⟨env', acc, vs, a1, a2, a3, a4, a5, a6, a7, a8, a9⟩ => ⟨xs.length - (k + 1), by omega, env', acc, vs, a1, a2, a3, a4, a5, a6, a7, a8, a9, hlt, rfl⟩, fun v H3 hy => ?_⟩
    obtain ⟨sm, dd⟩ := g2 v H3 hy
    have k3 : KeepW F.W H' H3 := same_keep sm
    have A3 := A'.step k3 (same_ok A'.ok sm)
    have A4 : Abs F (env'.set j (.fz xs[k])) (σ'.set j (some v)) (t :: L) H3 := A3.setF dd j
    have lo4 : Lone (env'.set j (.fz xs[k])) (σ'.set j (some v)) t := lo.setF j _ _ A3.ls
    have si4 : (σ'.set j (some v))[i]? = some (some (.ref t)) := by rw [List.getElem?_set_ne hij]; exact si
    have keepT : ∀ {Ha Hb : Hp} {us : List V}, KeepW F.W Ha Hb → Ha t = some (.lst us) → Hb t = some (.lst us) := fun k h => k t _ nt0 h
    have keepD : ∀ {Ha Hb : Hp} {us : List V} {ys : List D}, KeepW F.W Ha Hb → DdAll F.K (fun a => starN F.N0 F.H0 a ∨ a = t) F.W Ha us ys → DdAll F.K (fun a => starN F.N0 F.H0 a ∨ a = t) F.W Hb us ys := fun {Ha Hb us ys} k h => h.keep (fun a o q e => k a o (fun w => q (.inl (.inl (B0.wn a w)))) e) fun _ z => z
    have ht3 := keepT k3 ht
    have hd3 := keepD k3 hd
    have pr3 : Pres F (t :: L) H2 (t :: L) H3 := pr.trans (k3.pres A')
    have up : ∀ {Hx Hy : Hp} {env2 : De} {σ2 : L2.St} {u : V} {y : D}, Abs F env2 σ2 (t :: L) Hx → Dd F.K (starN (F.N (t :: L)) Hx) F.W Hy u y → Dd F.K (fun a => starN F.N0 F.H0 a ∨ a = t) F.W Hy u y := fun {Hx Hy env2 σ2 u y} B h => h.keep (fun _ _ _ z => z) fun a z => by
      rcases z with z | z
      · exact star_entry B z
      · exact .inl (.inr (by rw [z]; exact List.mem_cons_self))
    have grow : ∀ {Hx : Hp} {us ws : List V} {ys zs : List D}, Abs F (env'.set j (.fz xs[k])) (σ'.set j (some v)) (t :: L) Hx → Pres F (t :: L) H2 (t :: L) Hx → DdAll F.K (fun a => starN F.N0 F.H0 a ∨ a = t) F.W Hx us ys → gLoop j c1 d1 c2 d2 P.rt env0 (xs.drop (k + 1)) ys →
        ∃ env' acc vs, (∀ y, env'.set j y = env0.set j y) ∧ j < env'.length ∧ Abs F env' (σ'.set j (some v)) (t :: L) (upd Hx t (.lst us)) ∧ Lone env' (σ'.set j (some v)) t ∧ (σ'.set j (some v))[i]? = some (some (.ref t)) ∧ Pres F (t :: L) H2 (t :: L) (upd Hx t (.lst us)) ∧ (upd Hx t (.lst us)) t = some (.lst vs) ∧ DdAll F.K (fun a => starN F.N0 F.H0 a ∨ a = t) F.W (upd Hx t (.lst us)) vs acc ∧ gLoop j c1 d1 c2 d2 P.rt env0 (xs.drop (k + 1)) acc := fun {Hx us ws ys zs} B pb hu hl =>
      ⟨_, ys, us, fun y => by rw [List.set_set]; exact es y, by rw [List.length_set]; exact jl', B.poke tL lo4, lo4, si4, fun a o n h => by
        have q := pb a o n h
        have ne : a ≠ t := fun z => n (.inr (by rw [z]; exact List.mem_cons_self))
        exact ⟨q.1, by rw [upd_ne ne]; exact q.2⟩, upd_same, hu.keep (fun a o q h => by rw [upd_ne fun z => q (.inr z)]; exact h) fun _ z => z, hl⟩
    simp only [gLoop] at lp
    rw [← es] at lp
    have stay : ∀ {Hx : Hp}, Abs F (env'.set j (.fz xs[k])) (σ'.set j (some v)) (t :: L) Hx → Pres F (t :: L) H2 (t :: L) Hx → Hx t = some (.lst vs) → DdAll F.K (fun a => starN F.N0 F.H0 a ∨ a = t) F.W Hx vs acc → gLoop j c1 d1 c2 d2 P.rt env0 (xs.drop (k + 1)) acc →
        ∃ env' acc vs, (∀ y, env'.set j y = env0.set j y) ∧ j < env'.length ∧ Abs F env' (σ'.set j (some v)) (t :: L) Hx ∧ Lone env' (σ'.set j (some v)) t ∧ (σ'.set j (some v))[i]? = some (some (.ref t)) ∧ Pres F (t :: L) H2 (t :: L) Hx ∧ Hx t = some (.lst vs) ∧ DdAll F.K (fun a => starN F.N0 F.H0 a ∨ a = t) F.W Hx vs acc ∧ gLoop j c1 d1 c2 d2 P.rt env0 (xs.drop (k + 1)) acc := fun {Hx} B pb q1 q2 hl =>
      ⟨_, acc, vs, fun y => by rw [List.set_set]; exact es y, by rw [List.length_set]; exact jl', B, lo4, si4, pb, q1, q2, hl⟩
    refine ⟨_, _, _, A4, lp, fun b H4 p4 k4 o4 => ?_⟩
    have A5 := A4.step k4 o4
    have pr4 := pr3.trans (k4.pres A4)
    cases b with
    | true =>
      rw [if_pos rfl] at p4
      refine iteT ⟨.ref t, si4, .inl ⟨rfl, vs, SqL.of (keepT k4 ht3)⟩, _, _, _, A5, p4, fun y u H5 p5 k5 o5 d5 => ?_⟩
      have A6 := A5.step k5 o5
      exact ⟨t, vs, u, rfl, rfl, keepT k5 (keepT k4 ht3), by rw [hd.len]; exact p5.1, grow (ws := vs) (zs := acc) A6 (pr4.trans (k5.pres A5)) ((keepD k5 (keepD k4 hd3)).app (.cons (up A5 d5) .nil)) p5.2⟩
    | false =>
      rw [if_neg Bool.false_ne_true] at p4
      refine iteF ⟨_, _, _, A5, p4, fun b2 H5 p5 k5 o5 => ?_⟩
      have A6 := A5.step k5 o5
      have pr5 := pr4.trans (k5.pres A5)
      cases b2 with
      | true =>
        rw [if_pos rfl] at p5
        refine iteT ⟨.ref t, si4, .inl ⟨rfl, vs, SqL.of (keepT k5 (keepT k4 ht3))⟩, _, _, _, A6, p5, fun y u H6 p6 k6 o6 d6 => ?_⟩
        obtain ⟨zs, rfl, l6, p6⟩ := p6
        have A7 := A6.step k6 o6
        have d7 := up A6 d6
        cases d7 with
        | lst q1 q2 q3 =>
          exact ⟨t, _, vs, _, rfl, rfl, keepT k6 (keepT k5 (keepT k4 ht3)), q1, by rw [hd.len, q3.len]; exact l6, grow (ws := vs) (zs := acc) A7 (pr5.trans (k6.pres A6)) ((keepD k6 (keepD k5 (keepD k4 hd3))).app q3) p6⟩
      | false =>
        rw [if_neg Bool.false_ne_true] at p5
        exact iteF (stay A6 pr5 (keepT k5 (keepT k4 ht3)) (keepD k5 (keepD k4 hd3)) p5)
  · have e : xs.drop k = [] := List.drop_eq_nil_of_le (by omega)
    rw [e] at lp
    refine .inl ⟨st (by omega), .ref t, si, hr (.lst acc) (.ref t) H' lp ⟨A'.kp, A'.ok, ?_, fun z => (by rw [nf] at z; cases z), fun j z => (by rw [nf] at z; cases z), fun R z => (by rw [nf] at z; cases z), fun _ => ?_⟩⟩
    · exact .lst ht (fun z => tn (.inl z)) (hd.keep (fun _ _ _ z => z) fun a z => .inl (.inl z))
    · exact .lst ht tn (hd.keep (fun _ _ _ z => z) fun a z => .inl z)
theorem lcallP {sp : DSp} {E : XK} {ds : TDA} (hK : F.K = K) : ∀ σ H Q, lP F (dCall sp ds) σ H Q → tCall (lSp K .pr sp) [] E (lA F ds) σ H Q := fun σ H Q ⟨env, L, P, A, pp, q⟩ => by
  subst hK
  exact ⟨env, L, _, A, pp, fun xs vs H1 px k1 o1 d1 => ⟨F.W, F.N L, xs, P, fun a h => (A.step k1 o1).alN h, fun a h => .inl (A.wn a h), o1, by rw [List.append_nil]; exact d1, px, fun x v H2 p2 k2 o2 d2 nn => q x v H2 p2 (k1.trans k2) o2 ((nn.p rfl).keep (fun _ _ _ z => z) fun y z => star_step A k1 z)⟩⟩
def sRetPu (d : TDE) : TDS := fun P env => d env fun x => x.pure = true ∧ P.rt x
theorem ds_retPu {e : Expr} {pos : Pos} {d : TDE} (nf : F.fr = .pr) (he : PE X e (lC F d)) : PS X (.Return (some e) pos) (lS F (sRetPu d)) := PS.mono (ps_ret he) fun E σ H ⟨env, L, P, A, pp, hn, hr, _⟩ =>
  ⟨env, L, _, A, pp, fun x v H' px k o dd => hr x v H' px.2 ⟨A.kp.trans k, o, dd.keep (fun _ _ _ z => z) n0_sub, fun z => (by rw [nf] at z; cases z), fun j z => (by rw [nf] at z; cases z), fun R z => (by rw [nf] at z; cases z), fun _ => pure_dd (no_star (A.step k o)) px.1 dd⟩⟩
def sRetTN (d dn : TDE) : TDS := fun P env => d env fun y => y.pure = true ∧ dn env fun x => x.shal = true ∧ P.rt (.tup [y, x])
theorem ds_retTN {a b : Expr} {pos p : Pos} {x1 : Nat} {d dn : TDE} (nf : F.fr = .pr) (ha : PE X a (lC F d)) (hb : PE X b (lN F dn)) (hs : starEach [a, b] X.env = (false, eval a X.env) :: starEach [b] X.env := by rfl) (hs2 : starEach [b] X.env = (false, eval b X.env) :: starEach [] X.env := by rfl) :
    PS X (.Return (some (.Tuple [a, b] x1 p)) pos) (lS F (sRetTN d dn)) := PS.mono (ps_ret (pe_tup (pa_cons ha (pa_cons hb pa_nil hs2) hs))) fun E σ H ⟨env, L, P, A, pp, hn, hr, _⟩ => by
  refine ⟨env, L, _, A, pp, fun y u H1 py k1 o1 d1 => ⟨env, L, _, A.step k1 o1, py.2, fun x c H2 px k2 o2 n2 nv => ⟨by show 2 ≤ sizeLine; decide, fun t ht => ?_⟩⟩⟩
  have A1 := A.step k1 o1
  have A2 := A1.step k2 o2
  have ns := fun x vs h => no_star A2 x vs h
  have nc : ¬ starN F.N0 F.H0 c := fun z => by
    rcases star_entry A1 z with z | ⟨o, z, _⟩
    · exact A1.new n2 z
    · rw [n2] at z; cases z
  have nt : ¬ starN F.N0 F.H0 t := fun z => by
    rcases star_entry A2 z with z | ⟨o, z, _⟩
    · exact A2.new ht z
    · rw [ht] at z; cases z
  have dy := pure_dd ns py.1 (A1.kd k2 d1)
  have dx : Dd F.K (starN F.N0 F.H0) F.W H2 (.ref c) x := by
    cases x with
    | lst xs => obtain ⟨us, g1, g2⟩ := nv; exact .lst g1 nc (pure_ddL ns px.1 g2)
    | dic xs => obtain ⟨us, g1, g3, g2⟩ := nv; exact .dic (.inl g1) nc g3 (pure_ddL ns px.1 g2)
    | dct xs => obtain ⟨us, g1, g3, g2⟩ := nv; exact .dct (.inl g1) nc g3 (pure_ddL ns px.1 g2)
    | _ => cases px.1
  have up : ∀ {v : V} {x : D}, Dd F.K (starN F.N0 F.H0) F.W H2 v x → Dd F.K (starN F.N0 F.H0) F.W (upd H2 t (.tup [u, .ref c])) v x := fun h => h.keep (fun b o _ z => by rw [upd_ne (ne_of_none z ht)]; exact z) fun _ z => z
  have dt : Dd F.K (starN F.N0 F.H0) F.W (upd H2 t (.tup [u, .ref c])) (.ref t) (.tup [y, x]) := .tup upd_same nt (.cons (up dy) (.cons (up dx) .nil))
  exact hr _ _ _ px.2 ⟨((A.kp.trans k1).trans k2).trans (.new ht), ok_new o2 ht, dt.keep (fun _ _ _ z => z) fun _ z => .inl z, fun z => (by rw [nf] at z; cases z), fun j z => (by rw [nf] at z; cases z), fun R z => (by rw [nf] at z; cases z), fun _ => dt⟩
theorem Abs.setNo {env : De} {σ : L2.St} {L : List Addr} {H : Hp} (A : Abs F env σ L H) (v : V) (i : Nat) : Abs F (env.set i .no) (σ.set i (some v)) L H := by
  refine ⟨A.ok, A.al, A.wn, A.kp, A.fr, by rw [List.length_set, List.length_set, A.ls], fun j l a ej el h1 h2 o1 o2 s1 s2 => ?_, A.so.set0 rfl rfl _, fun j e y h1 h2 => ?_⟩
  · by_cases hj : i = j
    · subst hj
      by_cases hi : i < env.length
      · rw [List.getElem?_set_self hi] at h1
        cases h1
        cases o1
      · rw [List.getElem?_eq_none (by rw [List.length_set]; omega)] at h1
        cases h1
    · by_cases hl : i = l
      · subst hl
        by_cases hi : i < env.length
        · rw [List.getElem?_set_self hi] at h2
          cases h2
          cases o2
        · rw [List.getElem?_eq_none (by rw [List.length_set]; omega)] at h2
          cases h2
      · rw [List.getElem?_set_ne hj] at h1 s1
        rw [List.getElem?_set_ne hl] at h2 s2
        exact A.sep j l a ej el h1 h2 o1 o2 s1 s2
  · by_cases hj : i = j
    · subst hj
      by_cases hi : i < env.length
      · rw [List.getElem?_set_self hi] at h1
        rw [List.getElem?_set_self (by rw [← A.ls]; exact hi)] at h2
        cases h1
        cases h2
        trivial
      · rw [List.getElem?_eq_none (by rw [List.length_set]; omega)] at h1
        cases h1
    · rw [List.getElem?_set_ne hj] at h1 h2
      exact A.en j e y h1 h2
theorem Abs.weak {env : De} {σ : L2.St} {L : List Addr} {H : Hp} (A : Abs F env σ L H) (i : Nat) : Abs F (env.set i .no) σ L H := by
  refine ⟨A.ok, A.al, A.wn, A.kp, A.fr, by rw [List.length_set, A.ls], fun j l a ej el h1 h2 o1 o2 s1 s2 => ?_, A.so.setS rfl rfl, fun j e y h1 h2 => ?_⟩
  · by_cases hj : i = j
    · subst hj
      by_cases hi : i < env.length
      · rw [List.getElem?_set_self hi] at h1
        cases h1
        cases o1
      · rw [List.getElem?_eq_none (by rw [List.length_set]; omega)] at h1
        cases h1
    · by_cases hl : i = l
      · subst hl
        by_cases hi : i < env.length
        · rw [List.getElem?_set_self hi] at h2
          cases h2
          cases o2
        · rw [List.getElem?_eq_none (by rw [List.length_set]; omega)] at h2
          cases h2
      · rw [List.getElem?_set_ne hj] at h1
        rw [List.getElem?_set_ne hl] at h2
        exact A.sep j l a ej el h1 h2 o1 o2 s1 s2
  · by_cases hj : i = j
    · subst hj
      by_cases hi : i < env.length
      · rw [List.getElem?_set_self hi] at h1
        cases h1
        trivial
      · rw [List.getElem?_eq_none (by rw [List.length_set]; omega)] at h1
        cases h1
    · rw [List.getElem?_set_ne hj] at h1
      exact A.en j e y h1 h2
def okIt (n : Nat) (y : D) : Prop := ∃ w r, y = .tup (.str w :: r) ∧ (w ≠ "place" → ∃ (ns : List Str) (r' : List D), r = .lst (ns.map D.str) :: r' ∧ ns.length ≤ n)
def sScratch (i j : Nat) (d : TDE) (tt : TDT) : TDS := fun P env => i < env.length ∧ j < env.length ∧ i ≠ j ∧ d env fun x => (∃ xs, x = .lst xs ∧ xs.length ≤ 100000 ∧ ∀ y ∈ xs, okIt 100000 y) ∧ tt (env.set i (.fz x)) fun b => if b = true then P.rt (.bl false) else P.nx ((env.set i .no).set j .no)
def ItF (H Hk : Hp) (n : Nat) (v : V) : Prop := ∃ p w rs, v = .ref p ∧ Hk p = some (.tup (.str w :: rs)) ∧ (w ≠ "place" → ∃ l rs' zs, rs = .ref l :: rs' ∧ H l = none ∧ Hk l = some (.lst zs) ∧ zs.length ≤ n ∧ ∀ u ∈ zs, ∃ s, u = V.str s)
theorem str_all {N : Addr → Prop} {W : Wd} {H : Hp} : ∀ {ns : List Str} {zs : List V}, DdAll K N W H zs (ns.map D.str) → ∀ u ∈ zs, ∃ s, u = V.str s
  | [], _, .nil, u, hu => nomatch hu
  | n :: ns, _, .cons a b, u, hu => by
    rcases List.mem_cons.mp hu with rfl | hu
    · cases a; exact ⟨_, rfl⟩
    · exact str_all b u hu
theorem itf_of {H H1 : Hp} {N : Addr → Prop} {W : Wd} (own : ∀ a, W.own a → N a) (k : KeepW W H H1) {n : Nat} {v : V} {y : D} (h : Dd K (starN N H) W H1 v y) (g : okIt n y) : ItF H H1 n v := by
  obtain ⟨w, r, rfl, g⟩ := g
  cases h with
  | tup h1 h2 h3 =>
    cases h3 with
    | cons a1 a2 =>
      cases a1
      refine ⟨_, w, _, rfl, h1, fun hw => ?_⟩
      obtain ⟨ns, r', rfl, ly⟩ := g hw
      cases a2 with
      | cons b1 b2 =>
        cases b1 with
        | lst c1 c2 c3 =>
          rename_i l zs
          refine ⟨_, _, _, rfl, ?_, c1, by rw [c3.len, List.length_map]; exact ly, str_all c3⟩
          cases e : H l with
          | none => rfl
          | some o =>
            exfalso
            have hn : ¬ Nt o := fun z => c2 (.inr ⟨o, e, z⟩)
            have := k l o (fun z => c2 (.inl (own l z))) e
            rw [c1] at this
            cases this
            exact hn trivial
theorem ItF.app {H Hk : Hp} {n : Nat} {v : V} (h : ItF H Hk n v) {l : Addr} {us : List V} (e : Hk l = some (.lst us)) (lu : us.length ≤ n) (su : ∀ u ∈ us, ∃ s, u = V.str s) (z : Str) : ItF H (upd Hk l (.lst (us ++ [.str z]))) (n + 1) v := by
  obtain ⟨p, w, rs, rfl, h1, g⟩ := h
  refine ⟨p, w, rs, rfl, ?_, fun hw => ?_⟩
  · rw [upd_ne (ne_of h1 e fun q => nomatch q)]; exact h1
  · obtain ⟨l2, rs', zs, e1, e2, e3, e4, e5⟩ := g hw
    by_cases c : l2 = l
    · subst c
      exact ⟨l2, rs', _, e1, e2, upd_same, by rw [List.length_append]; simp only [List.length_cons, List.length_nil]; omega, fun u hu => (List.mem_append.mp hu).elim (su u) fun q => ⟨z, List.mem_singleton.mp q⟩⟩
    · exact ⟨l2, rs', zs, e1, e2, by rw [upd_ne c]; exact e3, by omega, e5⟩
theorem ItF.up {H Hk : Hp} {n m : Nat} {v : V} (h : ItF H Hk n v) (l : n ≤ m) : ItF H Hk m v := by
  obtain ⟨p, w, rs, e, h1, g⟩ := h
  exact ⟨p, w, rs, e, h1, fun hw => let ⟨l2, rs', zs, e1, e2, e3, e4, e5⟩ := g hw; ⟨l2, rs', zs, e1, e2, e3, by omega, e5⟩⟩
theorem ItF.keep {H Ha Hb : Hp} {n : Nat} {v : V} (h : ItF H Ha n v) (k : ∀ a o, Ha a = some o → (H a = none ∨ ¬ Nt o) → Hb a = some o) : ItF H Hb n v := by
  obtain ⟨p, w, rs, e, h1, g⟩ := h
  exact ⟨p, w, rs, e, k p _ h1 (.inr fun z => z), fun hw => let ⟨l2, rs', zs, e1, e2, e3, e4, e5⟩ := g hw; ⟨l2, rs', zs, e1, e2, k l2 _ e3 (.inl e2), e4, e5⟩⟩
theorem ds_scratch {d : TDE} {tt : TDT} {z : Str} {st4 : Stmt} (h1 : PS X st1 (tAsg (lP F d) (gName i))) (h2 : PS X st2 (tIfS (lT F tt) (lS F (sRet (dC (.bl false)))) tNext))
    (h3 : PS X st3 (tFor (iList F.K (tVar i)) (gName j) (tIfS (tTest (tOp rNe (tOp (rIxT F.K) (tVar j) (tC (.int 0))) (tC (.str "place")))) (tDrop (tBM F.K "list" rAppend (tOp (rIxT F.K) (tVar j) (tC (.int 1))) (tCons (tC (.str z)) tNil))) tNext)))
    (h4 : PS X st4 (tDrop (tBM0 F.K "list" rClear (tVar i)))) : PSs X [st1, st2, st3, st4] (lS F (sScratch i j d tt)) := PSs.mono (pss_cons h1 (pss_cons h2 (pss_cons h3 (pss_one h4)))) fun E σ H ⟨env, L, P, A, ⟨il, jl, ne, pp⟩, hn, hr, hb, hc⟩ => by
  refine ⟨env, L, _, A, pp, fun x v H1 px k1 o1 d1 => ?_⟩
  obtain ⟨⟨xs, rfl, lx, hx⟩, px⟩ := px
  have A1 := A.step k1 o1
  have B1 := A1.setF (d1.keep (fun _ _ _ z => z) fun _ z => .inl z) i
  show tIfS (lT F tt) _ _ _ (σ.set i (some v)) H1
  refine ⟨_, L, _, B1, px, fun b H2 p2 k2 o2 => ?_⟩
  have k12 := k1.trans k2
  cases b with
  | true =>
    rw [if_pos rfl] at p2
    exact iteT ⟨_, L, ⟨fun _ => False, P.rt, fun _ => False, fun _ => False⟩, B1.step k2 o2, p2, fun _ _ _ _ z => z.elim, hr, fun _ _ _ _ z => z.elim, fun _ _ _ _ z => z.elim⟩
  | false =>
    rw [if_neg Bool.false_ne_true] at p2
    refine iteF ?_
    obtain ⟨t, vs, rfl, ht1, nt, hd⟩ : ∃ t vs, v = .ref t ∧ H1 t = some (.lst vs) ∧ ¬ starN (F.N L) H t ∧ DdAll F.K (starN (F.N L) H) F.W H1 vs xs := by
      cases d1 with | lst a1 a2 a3 => exact ⟨_, _, rfl, a1, a2, a3⟩
    have fresh : ∀ {l : Addr} {us : List V}, H1 l = some (.lst us) → ¬ starN (F.N L) H l → H l = none := fun {l us} c1 c2 => by
      cases e : H l with
      | none => rfl
      | some o =>
        exfalso
        have hn : ¬ Nt o := fun z => c2 (.inr ⟨o, e, z⟩)
        have := k1 l o (fun z => c2 (.inl (.inl (A.wn l z)))) e
        rw [c1] at this
        cases this
        exact hn trivial
    have htn := fresh ht1 nt
    have it1 : ∀ v ∈ vs, ItF H H1 100000 v := fun v hv => by
      obtain ⟨m, hm, rfl⟩ := List.getElem_of_mem hv
      obtain ⟨y, hy, dy⟩ := hd.getV (List.getElem?_eq_getElem hm)
      exact itf_of (fun a z => .inl (A.wn a z)) k1 dy (hx y (List.mem_of_getElem? hy))
    have ownH : ∀ a, F.W.own a → ∃ o : HoN, H a = some o.1 := fun a z => A.alN (.inl (A.wn a z))
    have ownH1 : ∀ a, F.W.own a → ∃ o : HoN, H1 a = some o.1 := fun a z => A1.alN (.inl (A.wn a z))
    have it2 : ∀ v ∈ vs, ItF H H2 100000 v := fun v hv => (it1 v hv).keep fun a o e q => k2 a o (fun w => by
      rcases q with q | q
      · obtain ⟨o', e'⟩ := ownH a w
        rw [q] at e'; cases e'
      · obtain ⟨o', e'⟩ := ownH1 a w
        rw [e] at e'; cases e'
        exact q o'.2) e
    have nwt : ¬ F.W.own t := fun w => by
      obtain ⟨o', e'⟩ := ownH t w
      rw [htn] at e'; cases e'
    have ht2 : H2 t = some (.lst vs) := k2 t _ nwt ht1
    have il' : i < σ.length := by rw [← A.ls]; exact il
    have si0 : (σ.set i (some (.ref t)))[i]? = some (some (.ref t)) := List.getElem?_set_self il'
    have C0 : Abs F ((env.set i .no).set j .no) (σ.set i (some (.ref t))) L H := (A.setNo (.ref t) i).weak j
    have lv : vs.length ≤ 100000 := by rw [hd.len]; exact lx
    have poke : ∀ {Hk : Hp} {l : Addr} {us ws : List V}, KeepW F.W H Hk → F.W.ok Hk → H l = none → Hk l = some (.lst us) → KeepW F.W H (upd Hk l (.lst ws)) ∧ F.W.ok (upd Hk l (.lst ws)) := fun {Hk l us ws} k o n e => by
      have nl : ¬ F.W.own l := fun w => by
        obtain ⟨o', e'⟩ := ownH l w
        rw [n] at e'; cases e'
      refine ⟨fun a u q h => by rw [upd_ne (ne_of_none h n)]; exact k a u q h, Wd.st o (n := noT_upd trivial) fun b u h q => ?_⟩
      have nb : b ≠ l := fun z => by
        rcases q with q | q
        · exact nl (z ▸ q)
        · rw [z, e] at h
          exact q (Option.some.inj h ▸ trivial)
      rw [upd_ne nb]
      exact h
    unfold tNext
    dsimp only
    unfold tSeq
    refine ⟨.ref t, si0, t, rfl, ⟨vs, SqL.of ht2⟩, fun k m σ' H' => Abs F ((env.set i .no).set j .no) σ' L H ∧ σ'[i]? = some (some (.ref t)) ∧ KeepW F.W H H' ∧ F.W.ok H' ∧ H' t = some (.lst vs) ∧ (∀ v ∈ vs, ItF H H' (100000 + k) v) ∧ k ≤ vs.length ∧ m = vs.length - k,
      ⟨_, C0, si0, k12, o2, ht2, it2, Nat.zero_le _, rfl⟩, ?_⟩
    rintro k m σ' H' ⟨C, si, kk, ok, ht, hi, hk, rfl⟩
    by_cases hlt : k < vs.length
    · refine .inr ⟨⟨vs, vs[k], SqL.of ht, List.getElem?_eq_getElem hlt⟩, fun σ2 H3 => Abs F ((env.set i .no).set j .no) σ2 L H ∧ σ2[i]? = some (some (.ref t)) ∧ KeepW F.W H H3 ∧ F.W.ok H3 ∧ H3 t = some (.lst vs) ∧ ∀ v ∈ vs, ItF H H3 (100000 + (k + 1)) v,
        fun σ2 H3 ⟨a1, a2, a3, a4, a5, a6⟩ => ⟨vs.length - (k + 1), by omega, a1, a2, a3, a4, a5, a6, hlt, rfl⟩, fun x H3 hy => ?_⟩
      obtain ⟨rfl, hy⟩ := hy
      have hx2 := hy vs (SqL.of ht)
      have hxm : x ∈ vs := List.mem_of_getElem? hx2
      obtain ⟨p, w, rs, rfl, hp, g⟩ := hi x hxm
      have C2 : Abs F ((env.set i .no).set j .no) (σ'.set j (some (.ref p))) L H := by
        have := C.setNo (.ref p) j
        rwa [List.set_set] at this
      have si2 : (σ'.set j (some (.ref p)))[i]? = some (some (.ref t)) := by rw [List.getElem?_set_ne (Ne.symm ne)]; exact si
      have sj2 : (σ'.set j (some (.ref p)))[j]? = some (some (.ref p)) := List.getElem?_set_self (by rw [← C.ls, List.length_set, List.length_set]; exact jl)
      refine ⟨.ref p, sj2, p, .str w :: rs, ((0 : Nat) : Int), .str w, rfl, rfl, SqT.of hp, atI_nat rfl, rfl, !decide (V.str w = V.str "place"), rfl, ?_⟩
      by_cases c : w = "place"
      · subst c
        have e : (!decide (V.str "place" = V.str "place")) = false := by simp
        rw [e]
        exact iteF ⟨C2, si2, kk, ok, ht, fun v hv => (hi v hv).up (by omega)⟩
      · have e : (!decide (V.str w = V.str "place")) = true := by simp [c]
        rw [e]
        obtain ⟨l, rs', zs, rfl, e2, e3, e4, e5⟩ := g c
        have tl : t ≠ l := fun q => by
          subst q
          rw [ht] at e3
          cases e3
          obtain ⟨s, hs⟩ := e5 _ hxm
          cases hs
        obtain ⟨q1, q2⟩ := poke (ws := zs ++ [.str z]) kk ok e2 e3
        refine iteT ⟨.ref p, sj2, p, .str w :: .ref l :: rs', ((1 : Nat) : Int), .ref l, rfl, rfl, SqT.of hp, atI_nat rfl, .inl ⟨rfl, zs, SqL.of e3⟩, l, zs, .str z, rfl, rfl, e3, by rw [sizeLine_eq]; omega, C2, si2, q1, q2, by rw [upd_ne tl]; exact ht, fun v hv => (hi v hv).app e3 e4 e5 z⟩
    · obtain ⟨q1, q2⟩ := poke (ws := []) kk ok htn ht
      exact .inl ⟨⟨vs, SqL.of ht, by omega⟩, .ref t, si, .inl ⟨rfl, vs, SqL.of ht⟩, t, vs, rfl, rfl, ht, hn _ _ _ _ p2 (C.step q1 q2) (q1.pres A)⟩
theorem ps_app {o e : Expr} {to te : TE} {apos cpos pos : Pos} (ho : PE X o to) (he : PE X e te) (hbase : attributeBase o "append" X.env (eval o X.env) = eval o X.env := by rfl)
    (hfew : ((backTo cpos (starEach [e] X.env)).all (fun x => !x.1) && (backToKw cpos (keywordEach [] X.env)).all (fun x => x.1.isSome) && decide (([e] : List Expr).length + ([] : List Keyword).length + (if ([] : List Keyword).isEmpty then 0 else 1) < 30)) = true := by rfl)
    (hline : (apos.endLine == cpos.line) = true := by rfl) (hs : starEach [e] X.env = (false, eval e X.env) :: starEach [] X.env := by rfl) (hplain : (backTo cpos (starEach [] X.env)).any (·.1) = false := by rfl)
    (hsw : swapsWith (.Call (.Attribute o "append" apos) [e] [] cpos) none pos.line X.env = pure false := by rfl) :
    PS X (.Expr (.Call (.Attribute o "append" apos) [e] [] cpos) pos) (tDrop (tBM X.K "list" rAppend to (tCons te tNil))) := ps_expr (pe_bm PySem.F.plainAttrs_list PySem.F.slot_list_append PySem.F.type_list_append mt_append ho (pa_cons he pa_nil hs) hbase hfew hline hs hplain) hsw
theorem ps_extd {o e : Expr} {to te : TE} {apos cpos pos : Pos} (ho : PE X o to) (he : PE X e te) (hbase : attributeBase o "extend" X.env (eval o X.env) = eval o X.env := by rfl)
    (hfew : ((backTo cpos (starEach [e] X.env)).all (fun x => !x.1) && (backToKw cpos (keywordEach [] X.env)).all (fun x => x.1.isSome) && decide (([e] : List Expr).length + ([] : List Keyword).length + (if ([] : List Keyword).isEmpty then 0 else 1) < 30)) = true := by rfl)
    (hline : (apos.endLine == cpos.line) = true := by rfl) (hs : starEach [e] X.env = (false, eval e X.env) :: starEach [] X.env := by rfl) (hplain : (backTo cpos (starEach [] X.env)).any (·.1) = false := by rfl)
    (hsw : swapsWith (.Call (.Attribute o "extend" apos) [e] [] cpos) none pos.line X.env = pure false := by rfl) :
    PS X (.Expr (.Call (.Attribute o "extend" apos) [e] [] cpos) pos) (tDrop (tBM X.K "list" rExtend to (tCons te tNil))) := ps_expr (pe_bm PySem.F.plainAttrs_list PySem.F.slot_list_extend PySem.F.type_list_extend mt_extend ho (pa_cons he pa_nil hs) hbase hfew hline hs hplain) hsw
theorem ps_clrL {o : Expr} {to : TE} {apos cpos pos : Pos} (ho : PE X o to) (hbase : attributeBase o "clear" X.env (eval o X.env) = eval o X.env := by rfl) (hline : (apos.endLine == cpos.line) = true := by rfl)
    (hsw : swapsWith (.Call (.Attribute o "clear" apos) [] [] cpos) none pos.line X.env = pure false := by rfl) :
    PS X (.Expr (.Call (.Attribute o "clear" apos) [] [] cpos) pos) (tDrop (tBM0 X.K "list" rClear to)) := ps_expr (pe_bm0 PySem.F.plainAttrs_list PySem.F.slot_list_clear PySem.F.type_list_clear mt_clear ho hbase hline) hsw
theorem pe_ix0 {o : Expr} {to : TE} {n : Nat} {kk : Nat} {q1 pos : Pos} (ho : PE X o to) (hs : PlainIx (.Constant (.int (n : Int)) kk q1) := by intro _ _; rfl) : PE X (.Subscript o (.Constant (.int (n : Int)) kk q1) pos) (tOp (rIxT X.K) to (tC (.int n))) := pe_ix ix_tup ho pe_int hs
theorem pt_nePl {a : Expr} {ta : TE} {x : Str} {kk : Nat} {q1 pos : Pos} (ha : PE X a ta) : PT X (.Compare a [.NotEq] [.Constant (.str x) kk q1] pos) (tTest (tOp rNe ta (tC (.str x)))) := pt_cmpR op_ne ha pe_str (nomark _)
theorem dp_call {e : Expr} {es : List Expr} {ds : TDA} {pos p : Pos} {x : Str} {k : Nat} {f : Addr} {fd : FuncData} {ps : List Str} {sp : DSp} {CX : _} {E : XK} (G : FnOk X.prog X.w X.K X.mg X.base CX k f fd ps (lSp K .pr sp)) (hr : Room k X.A) (hg : Gl X x) (hm : X.mg x = some (.ref f)) (hk : PySem.W.keepIn X.K (.ref f) = true) (hb : Binds X.K fd ps []) (hx : Passes CX X E) (ha : PA X (e :: es) (lA F ds)) (hK : F.K = K := by rfl)
    (he : starEach (e :: es) X.env = (false, eval e X.env) :: starEach es X.env := by rfl) (hpl : (backTo pos (starEach es X.env)).any (·.1) = false := by rfl) (hdb : (x == ("__debug__" : Str)) = false := by decide) :
    PE X (.Call (.Name x p) (e :: es) [] pos) (lP F (dCall sp ds)) := PE.mono (pe_call G hr hg hm hk hb .nil hx ha hdb he hpl) (lcallP hK)
end
end DL
namespace DL
open PySem PySem.Spec PyProof.Rows L2 RK
section
variable {X : Cx} {F : Fx} {e : Expr} {d : TDE} {pos p : Pos}
def rReprN (K : PySem.W.Frag) : List V → Hp → VK → Prop := fun xs H Q => (xs = [V.non] ∧ Q (.str "None") H) ∨ rRepr K xs H Q
theorem call_reprN (hg : X.A.guards = some []) (hu : X.A.units + 64 < cLine) : CallR X (.builtin "repr") (rReprN X.K) := by
  intro pins s σ H xs us Q I r h
  rcases h with ⟨rfl, q⟩ | h
  · obtain ⟨u, rfl, rx⟩ := vals1 r
    cases rx
    exact P.repr_of_none ⟨.str "None", H, I.tok _, ⟨_, rfl⟩, q⟩
  · exact call_repr hg hu pins s σ H xs us Q I r h
def pRepr (x : D) (P : D → Prop) : Prop := ob (toPy x) fun q => q.showable = true ∧ q.hasDict = false ∧ q.depth ≤ 60 ∧ q.shown.length ≤ sizeLine ∧ P (.str q.shown)
def rpN (x : D) (P : D → Prop) : Prop := match x with
  | .non => P (.str "None")
  | .lst xs => pRepr (.lst xs) P
  | .tup xs => pRepr (.tup xs) P
  | _ => False
def dReprN (d : TDE) : TDE := fun env P => d env fun x => rpN x P
theorem reprRN (hg : X.A.guards = some []) (hu : X.A.units + 64 < cLine) (hK : F.K = X.K) : CallR X (.builtin "repr") (rReprN F.K) := by
  rw [hK]
  exact call_reprN hg hu
theorem dd_reprN {k : Nat} (hgd : X.A.guards = some []) (hr : Room k X.A) (hg : Gl X "repr") (hm : X.mg "repr" = none) (ha : PE X e (lB F d)) (he : starEach [e] X.env = (false, eval e X.env) :: starEach [] X.env := by rfl) (hpl : (backTo pos (starEach [] X.env)).any (·.1) = false := by rfl) (hK : F.K = X.K := by rfl) :
    PE X (.Call (.Name "repr" p) [e] [] pos) (lC F (dReprN d)) := PE.mono (pe_callB (reprRN hgd hr.units hK) hg hm (by decide +kernel) (pa_cons ha pa_nil he) (by decide) (by decide) he hpl) fun σ H Q ⟨env, L, P, A, pp, q⟩ =>
  ⟨env, L, _, A, pp, fun x v H1 px k1 o1 b1 => by
    cases x with
    | non =>
      rw [bw_non b1]
      exact .inl ⟨rfl, q _ _ H1 px k1 o1 (.str _)⟩
    | lst xs =>
      obtain ⟨z, e, h1, h2, h3, h4, px⟩ := ob_elim px
      obtain ⟨a, vs, rfl, g1, g2⟩ := bw_lst b1
      exact .inr ⟨a, z, rfl, bw_py b1 e, h1, h2, h3, h4, q _ _ H1 px k1 o1 (.str _)⟩
    | tup xs =>
      obtain ⟨z, e, h1, h2, h3, h4, px⟩ := ob_elim px
      obtain ⟨a, vs, rfl, g1, g2⟩ := bw_tup b1
      exact .inr ⟨a, z, rfl, bw_py b1 e, h1, h2, h3, h4, q _ _ H1 px k1 o1 (.str _)⟩
    | _ => exact px.elim⟩
end
end DL
namespace DL
open PySem PySem.Spec PyProof.Rows L2 RK LamX
theorem fn_sub {P : Program} {w : World} {K : PySem.W.Frag} {mg : Str → Option Value} {base : Heap} {k : Nat} {f : Addr} {fd : FuncData} {ps : List Str} {CX : CXT} {fr : Fr} {sp sp' : DSp} (G : FnOk P w K mg base CX k f fd ps (lSp K fr sp)) (h : ∀ ds P, sp' ds P → sp ds P) : FnOk P w K mg base CX k f fd ps (lSp K fr sp') := by
  have cv : ∀ vs H Q E, lSp K fr sp' vs H Q E → lSp K fr sp vs H Q E := fun vs H Q E ⟨W, N0, ds, Pd, al, wn, ok, dd, s, q⟩ => ⟨W, N0, ds, Pd, al, wn, ok, dd, h _ _ s, q⟩
  exact ⟨fun vs H Q E z => G.len vs H Q E (cv vs H Q E z), fun A outer s H args us vs Q E hr e0 hb rv z => G.run A outer s H args us vs Q E hr e0 hb rv (cv vs H Q E z)⟩
end DL
namespace DL
open PySem PySem.Spec PyProof.Rows L2 RK
theorem bIx_l {xs : List D} {j : Nat} {x : D} (h : xs[j]? = some x) : bIx (.lst xs) (.int (j : Nat)) = some x := by
  show (atI xs (j : Int)).or _ = some x
  rw [atI_nat h]
  rfl
theorem bIx_tp {xs : List D} {j : Nat} {x : D} (h : xs[j]? = some x) : bIx (.tup xs) (.int (j : Nat)) = some x := by
  show (atI xs (j : Int)).or _ = some x
  rw [atI_nat h]
  rfl
theorem bIx_s {z : Str} (hz : z.length ≤ sizeLine) {j : Nat} {c : Nat} (h : z.cps.toList[j]? = some c) : bIx (.str z) (.int (j : Nat)) = some (.str ⟨#[c]⟩) := by
  show (none : Option D).or ((if z.length ≤ sizeLine then (atI z.cps.toList (j : Int)).map (fun c => D.str ⟨#[c]⟩) else none).or _) = _
  rw [if_pos hz, atI_nat h]
  rfl
theorem allD_map (bs : List Bool) : allD [.lst (bs.map D.bl)] = some (.bl (bs.all id)) := by
  show (blsD (bs.map D.bl)).map _ = _
  rw [blsD_map]
  rfl
theorem sumD_map (bs : List Int) : sumD [.lst (bs.map D.int)] = some (.int bs.sum) := by
  show (intsD (bs.map D.int)).map _ = _
  rw [intsD_map]
  rfl
theorem allD_f {α : Type} (l : List α) (f : α → Bool) : allD [.lst (l.map fun a => D.bl (f a))] = some (.bl (l.all f)) := by
  have : (l.map fun a => D.bl (f a)) = (l.map f).map D.bl := by rw [List.map_map]; rfl
  rw [this, allD_map, List.all_map]
  rfl
theorem szM {n : Nat} (h : n ≤ 1000000) : n < sizeLine := Nat.lt_of_le_of_lt h (by rw [sizeLine_eq]; decide)
theorem comp_map {α : Type} {g : TDG} {tt : TDT} {te : TDE} {P : D → Prop} {env : De} (enc f : α → D) : ∀ (l : List α) (acc : List D), (∀ a ∈ l, ∀ (Q : D → Prop) (Z : Prop), Q (f a) → g (enc a) env fun env' => tt env' fun b => if b = true then te env' Q else Z) → acc.length + l.length ≤ 1000000 →
    P (.lst (acc ++ l.map f)) → dComp g tt te P env (l.map enc) acc
  | [], acc, _, _, q => by
    rw [List.map_nil, List.append_nil] at q
    exact q
  | a :: l, acc, h, hl, q => h a List.mem_cons_self _ _ (by
      refine ⟨szM (by simp at hl; omega), comp_map enc f l (acc ++ [f a]) (fun b hb => h b (List.mem_cons_of_mem _ hb)) (by simp at hl ⊢; omega) ?_⟩
      rw [List.append_assoc]
      exact q)
theorem comp_filter {α : Type} {g : TDG} {tt : TDT} {te : TDE} {P : D → Prop} {env : De} (enc f : α → D) (p : α → Bool) : ∀ (l : List α) (acc : List D), (∀ a ∈ l, ∀ (Q : D → Prop) (Z : Prop), (p a = true → Q (f a)) → (p a = false → Z) → g (enc a) env fun env' => tt env' fun b => if b = true then te env' Q else Z) → acc.length + l.length ≤ 1000000 →
    P (.lst (acc ++ (l.filter p).map f)) → dComp g tt te P env (l.map enc) acc
  | [], acc, _, _, q => by
    rw [List.filter_nil, List.map_nil, List.append_nil] at q
    exact q
  | a :: l, acc, h, hl, q => by
    refine h a List.mem_cons_self _ _ (fun hp => ⟨szM (by simp at hl; omega), comp_filter enc f p l (acc ++ [f a]) (fun b hb => h b (List.mem_cons_of_mem _ hb)) (by simp at hl ⊢; omega) ?_⟩) (fun hp => comp_filter enc f p l acc (fun b hb => h b (List.mem_cons_of_mem _ hb)) (by simp at hl ⊢; omega) ?_)
    · rw [List.filter_cons_of_pos hp, List.map_cons] at q
      rw [List.append_assoc]
      exact q
    · rw [List.filter_cons_of_neg (by rw [hp]; exact Bool.false_ne_true)] at q
      exact q
theorem loop_inv {α : Type} {g : TDG} {body : TDS} {P : DEnds} (enc : α → D) (l : List α) (I : List α → De → Prop)
    (step : ∀ (pre : List α) (a : α) (post : List α) (env : De), l = pre ++ a :: post → I pre env → ∀ k : De → Prop, (∀ env', I (pre ++ [a]) env' → k env') → g (enc a) env fun env' => body { nx := k, rt := P.rt, bk := P.nx, ct := k } env') (done : ∀ env, I l env → P.nx env) :
    ∀ (post pre : List α) (env : De), l = pre ++ post → I pre env → sLoop g body P (post.map enc) env
  | [], pre, env, e, h => by
    rw [List.append_nil] at e
    exact done env (e ▸ h)
  | a :: post, pre, env, e, h => step pre a post env e h _ fun env' h' => loop_inv enc l I step done post (pre ++ [a]) env' (by rw [List.append_assoc]; exact e) h'
theorem loop_all {α : Type} {g : TDG} {body : TDS} {P : DEnds} {env : De} (enc : α → D) (l : List α) (I : List α → De → Prop) (h0 : I [] env)
    (step : ∀ (pre : List α) (a : α) (post : List α) (env : De), l = pre ++ a :: post → I pre env → ∀ k : De → Prop, (∀ env', I (pre ++ [a]) env' → k env') → g (enc a) env fun env' => body { nx := k, rt := P.rt, bk := P.nx, ct := k } env') (done : ∀ env, I l env → P.nx env) :
    sLoop g body P (l.map enc) env := loop_inv enc l I step done l [] env rfl h0
theorem loop_rng {g : TDG} {body : TDS} {P : DEnds} {env : De} {lo : Int} {n : Nat} (I : Nat → De → Prop) (h0 : I 0 env)
    (step : ∀ (i : Nat) (env : De), i < n → I i env → ∀ k : De → Prop, (∀ env', I (i + 1) env' → k env') → g (.int (lo + (i : Nat))) env fun env' => body { nx := k, rt := P.rt, bk := P.nx, ct := k } env') (done : ∀ env, I n env → P.nx env) :
    sLoop g body P (rngD lo n) env := by
  unfold rngD
  refine loop_all (fun k : Nat => D.int (lo + (k : Nat))) (List.range n) (fun pre env => I pre.length env) h0 (fun pre a post env e h k hk => ?_) (fun env h => done env (by rw [List.length_range] at h; exact h))
  have hl : pre.length < n := by
    have := congrArg List.length e
    simp at this
    omega
  have ha : a = pre.length := by
    have h1 : (List.range n)[pre.length]? = some a := by rw [e]; simp
    rw [List.getElem?_range hl] at h1
    exact (Option.some.inj h1).symm
  rw [ha]
  exact step pre.length env hl h k fun env' h' => hk env' (by rw [List.length_append]; exact h')
def sp_of : DSp := fun ds P => (∃ xs, (ds = [.bag, .lst xs] ∨ ds = [.bag, .tup xs]) ∧ 1 ≤ xs.length ∧ xs.length ≤ 1000000 ∧ ∀ x ∈ xs, P x) ∨ (∃ z : Str, ds = [.bag, .str z] ∧ 1 ≤ z.length ∧ z.length ≤ 1000000 ∧ ∀ c ∈ z.cps.toList, P (.str ⟨#[c]⟩))
def d_of : TDS := (sRet (dO2 bIx (dV 1) (dCall sp_pull (aCons (dV 0) (aCons (dCa lenD (aCons (dV 1) aNil)) aNil)))))
theorem rd_of {ds : List D} {P : D → Prop} (h : sp_of ds P) : d_of (fin false P) (st 2 ds) := by
  rcases h with ⟨xs, h | h, l1, l2, q⟩ | ⟨z, rfl, l1, l2, q⟩
  · subst h
    simp only [d_of, dV, dO2, ob_some, aNil, aCons, dCa, dCall, sRet, fin, st, List.map_cons, List.map_nil, List.length_cons, List.length_nil, List.replicate_zero, List.append_nil, List.getElem?_cons_zero, List.getElem?_cons_succ, Nat.reduceSub, Nat.reduceAdd, lenD]
    refine ⟨_, rfl, by omega, by omega, fun r r0 r1 => ?_⟩
    obtain ⟨j, rfl⟩ : ∃ j : Nat, r = (j : Int) := ⟨r.toNat, by omega⟩
    show ob (bIx (.lst xs) (.int (j : Nat))) P
    rw [bIx_l (List.getElem?_eq_getElem (by omega))]
    exact q _ (List.getElem_mem _)
  · subst h
    simp only [d_of, dV, dO2, ob_some, aNil, aCons, dCa, dCall, sRet, fin, st, List.map_cons, List.map_nil, List.length_cons, List.length_nil, List.replicate_zero, List.append_nil, List.getElem?_cons_zero, List.getElem?_cons_succ, Nat.reduceSub, Nat.reduceAdd, lenD]
    refine ⟨_, rfl, by omega, by omega, fun r r0 r1 => ?_⟩
    obtain ⟨j, rfl⟩ : ∃ j : Nat, r = (j : Int) := ⟨r.toNat, by omega⟩
    show ob (bIx (.tup xs) (.int (j : Nat))) P
    rw [bIx_tp (List.getElem?_eq_getElem (by omega))]
    exact q _ (List.getElem_mem _)
  · have hz : z.length ≤ sizeLine := Nat.le_of_lt (szM l2)
    simp only [d_of, dV, dO2, ob_some, aNil, aCons, dCa, dCall, sRet, fin, st, List.map_cons, List.map_nil, List.length_cons, List.length_nil, List.replicate_zero, List.append_nil, List.getElem?_cons_zero, List.getElem?_cons_succ, Nat.reduceSub, Nat.reduceAdd, lenD, if_pos hz]
    refine ⟨_, rfl, by omega, by omega, fun r r0 r1 => ?_⟩
    obtain ⟨j, rfl⟩ : ∃ j : Nat, r = (j : Int) := ⟨r.toNat, by omega⟩
    have hj : j < z.cps.toList.length := by rw [← str_len]; omega
    show ob (bIx (.str z) (.int (j : Nat))) P
    rw [bIx_s hz (List.getElem?_eq_getElem hj)]
    exact q _ (List.getElem_mem _)
def sp_mixed : DSp := fun ds P => ∃ xs, (ds = [.bag, .lst xs] ∨ ds = [.bag, .tup xs]) ∧ xs.length ≤ 100000 ∧ ∀ ys : List D, ys.Perm xs → P (.lst ys)
def d_mixed : TDS := (sSeq (sSetO 2 (dLst aNil))
  (sSeq (sFor (iSeq (dV 1)) (gNm 3) (sIns 2 (dCall sp_pull (aCons (dV 0) (aCons (dO2 bAdd (dCa lenD (aCons (dB 2) aNil)) (dC (.int 1))) aNil))) (dV 3)))
  (sRetO 2)))
theorem rd_mixed {ds : List D} {P : D → Prop} (h : sp_mixed ds P) : d_mixed (fin true P) (st 4 ds) := by
  obtain ⟨xs, h, l2, q⟩ := h
  have loop : ∀ y : D, sLoop (gNm 3) (sIns 2 (dCall sp_pull (aCons (dV 0) (aCons (dO2 bAdd (dCa lenD (aCons (dB 2) aNil)) (dC (.int 1))) aNil))) (dV 3)) { fin true P with nx := sRetO 2 (fin true P) } xs [.fz .bag, .fz y, .ow [], .no] := fun y => by
    have := loop_all (g := gNm 3) (body := sIns 2 (dCall sp_pull (aCons (dV 0) (aCons (dO2 bAdd (dCa lenD (aCons (dB 2) aNil)) (dC (.int 1))) aNil))) (dV 3)) (P := { fin true P with nx := sRetO 2 (fin true P) }) (env := [.fz .bag, .fz y, .ow [], .no]) id xs (fun pre env => ∃ ys e, env = [.fz .bag, .fz y, .ow ys, e] ∧ ys.Perm pre) ⟨[], .no, rfl, .nil⟩ (fun pre a post env e h k hk => ?_) (fun env h => ?_)
    · rw [List.map_id] at this
      exact this
    · obtain ⟨ys, e2, rfl, hp⟩ := h
      have hl : ys.length < 100001 := by
        have h1 := hp.length_eq
        have h2 := congrArg List.length e
        simp at h2
        omega
      simp only [dC, dV, dB, dO2, ob_some, aNil, aCons, dCa, dCall, gNm, sIns, owAt, List.getElem?_cons_zero, List.getElem?_cons_succ, List.set_cons_zero, List.set_cons_succ, Option.bind_some, lenD, bAdd, iI0, Option.some_or]
      refine ⟨_, rfl, by omega, by omega, fun r r0 r1 => ⟨szM (by omega), r0, by omega, hk _ ⟨_, _, rfl, ?_⟩⟩⟩
      have e3 : ys = ys.take r.toNat ++ ys.drop r.toNat := (List.take_append_drop _ _).symm
      rw [List.append_assoc]
      refine (List.perm_middle).trans ?_
      show (a :: (ys.take r.toNat ++ ys.drop r.toNat)).Perm (pre ++ [a])
      rw [← e3]
      exact (List.Perm.cons a hp).trans (List.perm_append_singleton a pre).symm
    · obtain ⟨ys, e2, rfl, hp⟩ := h
      simp only [ob_some, sRetO, owD, fin, List.getElem?_cons_zero, List.getElem?_cons_succ, Option.bind_some]
      exact q ys hp
  rcases h with h | h
  · subst h
    simp only [d_mixed, dV, ob_some, aNil, dLst, sSeq, sSetO, enOf, fin, st, iSeq, lstD, tupD, sFor, List.map_cons, List.map_nil, List.length_cons, List.length_nil, List.replicate_succ, List.replicate_zero, List.cons_append, List.nil_append, List.getElem?_cons_zero, List.getElem?_cons_succ, List.set_cons_zero, List.set_cons_succ, Nat.reduceSub, Nat.reduceAdd]
    exact ⟨Nat.zero_le _, .inl (loop _)⟩
  · subst h
    simp only [d_mixed, dV, ob_some, aNil, dLst, sSeq, sSetO, enOf, fin, st, iSeq, lstD, tupD, sFor, List.map_cons, List.map_nil, List.length_cons, List.length_nil, List.replicate_succ, List.replicate_zero, List.cons_append, List.nil_append, List.getElem?_cons_zero, List.getElem?_cons_succ, List.set_cons_zero, List.set_cons_succ, Nat.reduceSub, Nat.reduceAdd]
    exact ⟨Nat.zero_le _, .inr (.inl (loop _))⟩
end DL
namespace DL
open PySem PySem.Spec PyProof.Rows L2 RK
def rectD (p : R) : D := .tup [.int p.l, .int p.t, .int p.r, .int p.b]
def sp_rectangle : DSp := fun ds P => ∃ c : Int, ds = [.bag, .int c] ∧ 1 ≤ c ∧ c ≤ 100000000 ∧ ∀ x y x2 y2 : Int, -4 ≤ x → x ≤ 4 → -4 ≤ y → y ≤ 4 → x < x2 → x2 ≤ x + 4 → y < y2 → y2 ≤ y + 4 → P (rectD ⟨c * x, c * y, c * x2, c * y2⟩)
def d_rectangle : TDS := (sSeq (sPar 2 3 false false (dO2 bSub (dCall sp_pull (aCons (dV 0) (aCons (dC (.int 9)) aNil))) (dC (.int 4))) (dO2 bSub (dCall sp_pull (aCons (dV 0) (aCons (dC (.int 9)) aNil))) (dC (.int 4))))
  (sSeq (sPar 4 5 false false (dO2 bAdd (dO2 bAdd (dV 2) (dC (.int 1))) (dCall sp_pull (aCons (dV 0) (aCons (dC (.int 4)) aNil)))) (dO2 bAdd (dO2 bAdd (dV 3) (dC (.int 1))) (dCall sp_pull (aCons (dV 0) (aCons (dC (.int 4)) aNil)))))
  (sRet (dTup (aCons (dO2 bMul (dV 1) (dV 2)) (aCons (dO2 bMul (dV 1) (dV 3)) (aCons (dO2 bMul (dV 1) (dV 4)) (aCons (dO2 bMul (dV 1) (dV 5)) aNil))))))))
theorem rd_rectangle {ds : List D} {P : D → Prop} (h : sp_rectangle ds P) : d_rectangle (fin true P) (st 6 ds) := by
  obtain ⟨c, rfl, c1, c2, q⟩ := h
  simp only [d_rectangle, dC, dV, dO2, ob_some, aNil, aCons, dTup, dCall, sSeq, sRet, sPar, kn, fin, st, List.map_cons, List.map_nil, List.length_cons, List.length_nil, List.replicate_succ, List.replicate_zero, List.cons_append, List.nil_append, List.getElem?_cons_zero, List.getElem?_cons_succ, List.set_cons_zero, List.set_cons_succ, Nat.reduceSub, Nat.reduceAdd, bSub, bAdd, iI0]
  refine ⟨_, rfl, by decide, by decide, fun r r0 r1 => ⟨_, rfl, by decide, by decide, fun s s0 s1 => ?_⟩⟩
  refine ⟨_, rfl, by decide, by decide, fun u u0 u1 => ⟨_, rfl, by decide, by decide, fun v v0 v1 => ?_⟩⟩
  have e : ∀ z : Int, bMul (.int c) (.int z) = some (.int (c * z)) := fun z => by
    show (if decide _ = true then some (D.int (c * z)) else none).or _ = _
    rw [if_pos (decide_eq_true (.inl ⟨by omega, by omega⟩))]
    rfl
  simp only [ob_some, e, Option.some_or]
  exact ⟨by decide, q (r - 4) (s - 4) (r - 4 + 1 + u) (s - 4 + 1 + v) (by omega) (by omega) (by omega) (by omega) (by omega) (by omega) (by omega) (by omega)⟩
theorem abc_get {j : Nat} (h : j < 26) : abc.cps.toList[j]? = some (97 + j) := by
  rw [abc_codes, List.getElem?_range' h, Nat.one_mul]
def sp_names : DSp := fun ds P => ∃ n : Int, ds = [.bag, .int n] ∧ 0 ≤ n ∧ n ≤ 26 ∧ ∀ zs : List Str, zs.length = n.toNat → (∀ z ∈ zs, NameOk z) → zs.Nodup → P (.lst (zs.map D.str))
def d_names : TDS := (sSeq (sAsg (dTup (aCons (dC (.str "abcdefghijklmnopqrstuvwxyz")) (aCons (dC (.str "")) aNil))) (gTp 2 (gsCons (gNm 2) (gsCons (gNm 3) gsNil))))
  (sSeq (sFor (iRng (aCons (dCall sp_pull (aCons (dV 0) (aCons (dC (.int 6)) aNil))) aNil)) (gNm 4) (sSet 3 (dO2 bAdd (dV 3) (dCall sp_of (aCons (dV 0) (aCons (dV 2) aNil))))))
  (sSeq (sIf (dT (dO2 (bEqN false) (dCall sp_pull (aCons (dV 0) (aCons (dC (.int 4)) aNil))) (dC (.int 0)))) (sRet (dLc (iRng (aCons (dV 1) aNil)) (gNm 4) tYesD (dO2 bMul (dO2 bIx (dV 2) (dO2 bMod (dO2 bAdd (dCa lenD (aCons (dV 3) aNil)) (dO2 bMul (dC (.int 7)) (dV 4))) (dC (.int 26)))) (dO2 bAdd (dC (.int 1)) (dO2 bMod (dO2 bAdd (dCa lenD (aCons (dV 3) aNil)) (dO2 bMul (dC (.int 5)) (dV 4))) (dC (.int 4))))) [4])) sNil)
  (sSeq (sAsg (dTup (aCons (dCall sp_pull (aCons (dV 0) (aCons (dO2 bAdd (dCa lenD (aCons (dV 3) aNil)) (dC (.int 1))) aNil))) (aCons (dCall sp_pull (aCons (dV 0) (aCons (dC (.int 26)) aNil))) (aCons (dCall sp_of (aCons (dV 0) (aCons (dLst (aCons (dC (.int 1)) (aCons (dC (.int 3)) (aCons (dC (.int 5)) (aCons (dC (.int 7)) (aCons (dC (.int 9)) aNil)))))) aNil))) aNil)))) (gTp 3 (gsCons (gNm 5) (gsCons (gNm 6) (gsCons (gNm 7) gsNil)))))
  (sRet (dLc (iRng (aCons (dV 1) aNil)) (gNm 4) tYesD (dO2 bAdd (dO2 bAdd (dCut cutA (dV 3) oNone (oSome (dV 5))) (dO2 bIx (dV 2) (dO2 bMod (dO2 bAdd (dV 6) (dO2 bMul (dV 7) (dV 4))) (dC (.int 26))))) (dCut cutA (dV 3) (oSome (dV 5)) oNone)) [4]))))))
theorem nodup_map_range {β : Type} {n : Nat} {f : Nat → β} (h : ∀ i j, i < n → j < n → f i = f j → i = j) : ((List.range n).map f).Nodup := by
  rw [List.nodup_iff_pairwise_ne, List.pairwise_map]
  refine List.Pairwise.imp_of_mem (fun {a b} ha hb hab e => ?_) (List.nodup_iff_pairwise_ne.mp List.nodup_range)
  exact hab (h a b (List.mem_range.mp ha) (List.mem_range.mp hb) e)
theorem bMul_i {i j : Int} (h : -(2 ^ 64) < i) (h' : i < 2 ^ 64) : bMul (.int i) (.int j) = some (.int (i * j)) := by
  show (if decide _ = true then some (D.int (i * j)) else none).or _ = _
  rw [if_pos (decide_eq_true (.inl ⟨h, h'⟩))]
  rfl
theorem bMod_i {i j : Int} (h : 0 < j) : bMod (.int i) (.int j) = some (.int (i % j)) := by
  show (if decide _ = true then some (D.int (i % j)) else none) = _
  rw [if_pos (decide_eq_true h)]
theorem bAdd_i (i j : Int) : bAdd (.int i) (.int j) = some (.int (i + j)) := rfl
theorem bAdd_s {x y : Str} (h : x.length + y.length ≤ sizeLine) : bAdd (.str x) (.str y) = some (.str (x ++ y)) := by
  show (none : Option D).or ((if x.length + y.length ≤ sizeLine then some (D.str (x ++ y)) else none).or _) = _
  rw [if_pos h]
  rfl
theorem bEq_i (i j : Int) : bEqN false (.int i) (.int j) = some (.bl (decide (i = j))) := by
  show (some (D.bl (false ^^ decide (i = j)))).or _ = _
  rw [Bool.false_xor]
  rfl
theorem bIx_abc {j : Nat} (h : j < 26) : bIx (.str abc) (.int (j : Nat)) = some (.str ⟨#[97 + j]⟩) := bIx_s (by rw [abc_len]; exact Nat.le_of_lt (szM (by decide))) (abc_get h)
theorem rd_names {ds : List D} {P : D → Prop} (h : sp_names ds P) : d_names (fin true P) (st 8 ds) := by
  obtain ⟨n, rfl, n0, n1, q⟩ := h
  simp only [d_names, dC, dV, aNil, aCons, dTup, dCall, sSeq, sAsg, gNm, gsNil, gsCons, gTp, fin, st, iRng, sFor, List.map_cons, List.map_nil, List.length_cons, List.length_nil, List.replicate_succ, List.replicate_zero, List.cons_append, List.nil_append, List.getElem?_cons_zero, List.set_cons_zero, List.set_cons_succ, Nat.reduceSub, Nat.reduceAdd]
  refine ⟨by decide, trivial, trivial, ⟨_, rfl, by decide, by decide, fun r r0 r1 => ⟨by omega, by omega, ?_⟩⟩⟩
  refine loop_rng (fun i env => ∃ e4 bs, env = [.fz .bag, .fz (.int n), .fz (.str abc), .fz (.str bs), e4, .no, .no, .no] ∧ bs.length = i ∧ ∀ c ∈ bs.cps.toList, Low c) ⟨.no, "", rfl, by decide +kernel, by intro c hc; exact absurd hc (by decide +kernel +revert)⟩ (fun i env hi h k hk => ?_) (fun env h => ?_)
  · obtain ⟨e4, bs, rfl, hl, hc⟩ := h
    simp only [dV, dO2, aNil, aCons, dCall, sSet, gNm, List.getElem?_cons_zero, List.getElem?_cons_succ, List.set_cons_zero, List.set_cons_succ]
    refine .inr ⟨abc, rfl, by rw [abc_len]; decide, by rw [abc_len]; decide, fun c hm => ?_⟩
    dsimp only
    rw [bAdd_s (by rw [one_len, hl]; exact Nat.le_of_lt (szM (by omega)))]
    refine hk _ ⟨_, _, rfl, ?_, fun c' hc' => ?_⟩
    · rw [str_len, app_codes, List.length_append, ← str_len, hl]
      rfl
    · rw [app_codes] at hc'
      rcases List.mem_append.mp hc' with h | h
      · exact hc c' h
      · have h := List.mem_singleton.mp h
        subst h
        exact abc_mem.mp hm
  · obtain ⟨e4, bs, rfl, hl, hc⟩ := h
    have hb5 : bs.length ≤ 5 := by omega
    have hbs : bs.length ≤ sizeLine := Nat.le_of_lt (szM (by omega))
    simp only [dC, dV, dO2, ob_some, dT, aNil, aCons, dTup, dLst, dCa, dCall, sNil, sSeq, sIf, sRet, sAsg, gNm, gsNil, gsCons, gTp, iRng, dLc, wipeE, List.length_cons, List.length_nil, List.getElem?_cons_zero, List.getElem?_cons_succ, List.set_cons_zero, List.set_cons_succ, Nat.reduceAdd, lenD, if_pos hbs, bAdd_i]
    refine ⟨_, rfl, by decide, by decide, fun r2 _ _ => ite2 (fun c4 => ?_) (fun c4 => ?_)⟩
    · -- one letter, again and again
      refine ⟨by omega, by omega, ?_⟩
      have hm : ∀ k : Nat, ((bs.length : Int) + 7 * (0 + (k : Nat))) % 26 = ((bs.length + 7 * k) % 26 : Nat) := fun k => by omega
      have hm2 : ∀ k : Nat, 1 + ((bs.length : Int) + 5 * (0 + (k : Nat))) % 4 = ((1 + (bs.length + 5 * k) % 4 : Nat) : Int) := fun k => by omega
      refine comp_map (fun k : Nat => D.int (0 + (k : Nat))) (fun k => D.str (PySem.Txt.mul ⟨#[97 + (bs.length + 7 * k) % 26]⟩ ((1 + (bs.length + 5 * k) % 4 : Nat) : Int))) (List.range n.toNat) [] (fun k hk Q Z hQ => ?_) (by simp; omega) ?_
      · simp only [dC, dV, dO2, ob_some, aNil, aCons, dCa, gNm, tYesD, List.getElem?_cons_zero, List.getElem?_cons_succ, List.set_cons_zero, List.set_cons_succ, lenD, if_pos hbs, bAdd_i, bMod_i (show (0 : Int) < 26 by decide), bMod_i (show (0 : Int) < 4 by decide), bMul_i (show (-(2 ^ 64) : Int) < 7 by decide) (by decide), bMul_i (show (-(2 ^ 64) : Int) < 5 by decide) (by decide), hm, hm2, bIx_abc (Nat.mod_lt _ (by decide)), if_true]
        have e : bMul (.str ⟨#[97 + (bs.length + 7 * k) % 26]⟩) (.int ((1 + (bs.length + 5 * k) % 4 : Nat) : Int)) = some (.str (PySem.Txt.mul ⟨#[97 + (bs.length + 7 * k) % 26]⟩ ((1 + (bs.length + 5 * k) % 4 : Nat) : Int))) := by
          show (none : Option D).or ((none : Option D).or (if 1 ≤ ((1 + (bs.length + 5 * k) % 4 : Nat) : Int) ∧ ((1 + (bs.length + 5 * k) % 4 : Nat) : Int) ≤ 1000 then some _ else none)) = _
          rw [if_pos ⟨by omega, by omega⟩]
          rfl
        rw [e]
        exact hQ
      · rw [List.nil_append, show (fun k => D.str (PySem.Txt.mul ⟨#[97 + (bs.length + 7 * k) % 26]⟩ ((1 + (bs.length + 5 * k) % 4 : Nat) : Int))) = D.str ∘ fun k => PySem.Txt.mul ⟨#[97 + (bs.length + 7 * k) % 26]⟩ ((1 + (bs.length + 5 * k) % 4 : Nat) : Int) from rfl, ← List.map_map]
        refine q _ (by simp) (fun z hz => ?_) (nodup_map_range fun i j hi hj e => ?_)
        · obtain ⟨k, _, rfl⟩ := List.mem_map.mp hz
          obtain ⟨m, h1, h2⟩ := mul_codes (97 + (bs.length + 7 * k) % 26) (1 + (bs.length + 5 * k) % 4) (by omega)
          have hl2 : (PySem.Txt.mul ⟨#[97 + (bs.length + 7 * k) % 26]⟩ ((1 + (bs.length + 5 * k) % 4 : Nat) : Int)).length = m := by rw [str_len, h1, List.length_replicate]
          refine ⟨by omega, by omega, fun c hc => ?_⟩
          rw [h1] at hc
          have := (List.mem_replicate.mp hc).2
          unfold Low
          omega
        · obtain ⟨m, h1, h2⟩ := mul_codes (97 + (bs.length + 7 * i) % 26) (1 + (bs.length + 5 * i) % 4) (by omega)
          obtain ⟨m2, h3, h4⟩ := mul_codes (97 + (bs.length + 7 * j) % 26) (1 + (bs.length + 5 * j) % 4) (by omega)
          have e2 : List.replicate m (97 + (bs.length + 7 * i) % 26) = List.replicate m2 (97 + (bs.length + 7 * j) % 26) := by rw [← h1, ← h3, e]
          have e3 : (97 + (bs.length + 7 * i) % 26) ∈ List.replicate m2 (97 + (bs.length + 7 * j) % 26) := by rw [← e2]; exact List.mem_replicate.mpr ⟨by omega, rfl⟩
          have := (List.mem_replicate.mp e3).2
          omega
    · refine ⟨_, rfl, by omega, by omega, fun sp s0 s1 => ⟨_, rfl, by decide, by decide, fun fi f0 f1 => ⟨by decide, .inl ⟨_, .inl rfl, by decide, by decide, fun x hx => ?_⟩⟩⟩⟩
      obtain ⟨w, rfl, hw⟩ : ∃ w : Nat, x = .int (w : Int) ∧ (w = 1 ∨ w = 3 ∨ w = 5 ∨ w = 7 ∨ w = 9) := by
        simp only [List.mem_cons, List.not_mem_nil, or_false] at hx
        rcases hx with rfl | rfl | rfl | rfl | rfl
        · exact ⟨1, rfl, by omega⟩
        · exact ⟨3, rfl, by omega⟩
        · exact ⟨5, rfl, by omega⟩
        · exact ⟨7, rfl, by omega⟩
        · exact ⟨9, rfl, by omega⟩
      obtain ⟨sp, rfl⟩ : ∃ j : Nat, sp = (j : Int) := ⟨sp.toNat, by omega⟩
      obtain ⟨fi, rfl⟩ : ∃ j : Nat, fi = (j : Int) := ⟨fi.toNat, by omega⟩
      refine ⟨by decide, trivial, trivial, by omega, by omega, ?_⟩
      have hm : ∀ k : Nat, ((fi : Int) + (w : Int) * (0 + (k : Nat))) % 26 = ((fi + w * k) % 26 : Nat) := fun k => by
        rw [Int.zero_add]
        norm_cast
      have c1 : cutA (.str bs) none (some (sp : Int)) = some (.str (cutS bs none (some (sp : Int)))) := if_pos hbs
      have c2 : cutA (.str bs) (some (sp : Int)) none = some (.str (cutS bs (some (sp : Int)) none)) := if_pos hbs
      have k1 : (cutS bs none (some (sp : Int))).cps.toList = bs.cps.toList.take sp := by
        rw [cut_codes, HT.sIx_none, HT.sIx_nat, List.drop_zero, Nat.sub_zero]
        exact congrArg (fun m => List.take m bs.cps.toList) (by omega)
      have k2 : (cutS bs (some (sp : Int)) none).cps.toList = bs.cps.toList.drop sp := by
        rw [cut_codes, HT.sIx_none, HT.sIx_nat]
        have : min sp bs.length = sp := by omega
        rw [this]
        exact List.take_of_length_le (by rw [List.length_drop, ← str_len]; exact Nat.le_refl _)
      have l1 : (cutS bs none (some (sp : Int))).length = sp := by rw [str_len, k1, List.length_take, ← str_len]; omega
      have l2 : (cutS bs (some (sp : Int)) none).length = bs.length - sp := by rw [str_len, k2, List.length_drop, ← str_len]
      have codes : ∀ k : Nat, (cutS bs none (some (sp : Int)) ++ ⟨#[97 + (fi + w * k) % 26]⟩ ++ cutS bs (some (sp : Int)) none).cps.toList = bs.cps.toList.take sp ++ [97 + (fi + w * k) % 26] ++ bs.cps.toList.drop sp := fun k => by
        rw [app_codes, app_codes, k1, k2]
      refine comp_map (fun k : Nat => D.int (0 + (k : Nat))) (fun k => D.str (cutS bs none (some (sp : Int)) ++ ⟨#[97 + (fi + w * k) % 26]⟩ ++ cutS bs (some (sp : Int)) none)) (List.range n.toNat) [] (fun k hk Q Z hQ => ?_) (by simp; omega) ?_
      · simp only [dC, dV, dO2, ob_some, dCut, oNone, oSome, gNm, tYesD, List.getElem?_cons_zero, List.getElem?_cons_succ, List.set_cons_zero, List.set_cons_succ, c1, c2, bMul_i (show (-(2 ^ 64) : Int) < (w : Int) by omega) (show (w : Int) < 2 ^ 64 by omega), bAdd_i, bMod_i (show (0 : Int) < 26 by decide), hm, bIx_abc (Nat.mod_lt _ (by decide)), if_true]
        rw [bAdd_s (by rw [one_len, l1]; exact Nat.le_of_lt (szM (by omega))), ob_some, bAdd_s (by rw [str_len, app_codes, List.length_append, ← str_len, l1, l2]; exact Nat.le_of_lt (szM (by show sp + 1 + (bs.length - sp) ≤ _; omega)))]
        exact hQ
      · rw [List.nil_append, show (fun k => D.str (cutS bs none (some (sp : Int)) ++ ⟨#[97 + (fi + w * k) % 26]⟩ ++ cutS bs (some (sp : Int)) none)) = D.str ∘ fun k => cutS bs none (some (sp : Int)) ++ ⟨#[97 + (fi + w * k) % 26]⟩ ++ cutS bs (some (sp : Int)) none from rfl, ← List.map_map]
        refine q _ (by simp) (fun z hz => ?_) (nodup_map_range fun i j hi hj e => ?_)
        · obtain ⟨k, _, rfl⟩ := List.mem_map.mp hz
          have hl2 : (cutS bs none (some (sp : Int)) ++ ⟨#[97 + (fi + w * k) % 26]⟩ ++ cutS bs (some (sp : Int)) none).length = bs.length + 1 := by
            rw [str_len, codes, List.length_append, List.length_append, List.length_take, List.length_drop, ← str_len]
            simp
            omega
          refine ⟨by omega, by omega, fun c hc' => ?_⟩
          rw [codes, List.append_assoc] at hc'
          rcases List.mem_append.mp hc' with h | h
          · exact hc c (List.mem_of_mem_take h)
          · rcases List.mem_append.mp h with h | h
            · have := List.mem_singleton.mp h
              unfold Low
              omega
            · exact hc c (List.mem_of_mem_drop h)
        · have e2 : bs.cps.toList.take sp ++ [97 + (fi + w * i) % 26] ++ bs.cps.toList.drop sp = bs.cps.toList.take sp ++ [97 + (fi + w * j) % 26] ++ bs.cps.toList.drop sp := by rw [← codes, ← codes, e]
          rw [List.append_assoc, List.append_assoc] at e2
          have e3 := (List.cons.inj (List.append_cancel_left e2)).1
          rcases hw with rfl | rfl | rfl | rfl | rfl <;> omega
end DL
namespace DL
open PySem PySem.Spec PyProof.Rows L2 RK
mutual
def toP : D → PyData
  | .non => .none
  | .bl b => .bool b
  | .int i => .int i
  | .str x => .str x
  | .lst xs => .list (toPA xs)
  | .tup xs => .tuple (toPA xs)
  | _ => .none
def toPA : List D → List PyData
  | [] => []
  | x :: xs => toP x :: toPA xs
end
def sh : Nat → D → Bool
  | _, .non => true
  | _, .int _ => true
  | _, .str x => PyData.strOk x
  | n + 1, .lst xs => xs.all (sh n)
  | n + 1, .tup xs => xs.all (sh n)
  | _, _ => false
theorem sh_py : ∀ (n : Nat) (x : D), sh n x = true → toPy x = some (toP x) ∧ (toP x).canLay0 = true ∧ (toP x).depth ≤ n := by
  have lists : ∀ (n : Nat), (∀ x : D, sh n x = true → toPy x = some (toP x) ∧ (toP x).canLay0 = true ∧ (toP x).depth ≤ n) → ∀ xs : List D, xs.all (sh n) = true → toPyA xs = some (toPA xs) ∧ PyData.canLayAll0 (toPA xs) = true ∧ PyData.depthAll (toPA xs) ≤ n := by
    intro n ih xs
    induction xs with
    | nil => intro _; exact ⟨rfl, rfl, Nat.zero_le _⟩
    | cons x xs ihx =>
      intro h
      rw [List.all_cons, Bool.and_eq_true] at h
      obtain ⟨h1, h2, h3⟩ := ih x h.1
      obtain ⟨g1, g2, g3⟩ := ihx h.2
      refine ⟨?_, ?_, ?_⟩
      · show (toPy x).bind _ = _
        rw [h1]
        show (toPyA xs).map _ = _
        rw [g1]
        rfl
      · show (PyData.canLay0 (toP x) && PyData.canLayAll0 (toPA xs)) = true
        rw [h2, g2]
        rfl
      · show max (PyData.depth (toP x)) (PyData.depthAll (toPA xs)) ≤ n
        omega
  intro n
  induction n with
  | zero =>
    intro x h
    cases x with
    | non => exact ⟨rfl, rfl, Nat.le_refl _⟩
    | int i => exact ⟨rfl, rfl, Nat.le_refl _⟩
    | str z => exact ⟨rfl, h, Nat.le_refl _⟩
    | _ => cases h
  | succ n ih =>
    intro x h
    cases x with
    | non => exact ⟨rfl, rfl, Nat.zero_le _⟩
    | int i => exact ⟨rfl, rfl, Nat.zero_le _⟩
    | str z => exact ⟨rfl, h, Nat.zero_le _⟩
    | lst xs =>
      obtain ⟨h1, h2, h3⟩ := lists n ih xs h
      refine ⟨?_, h2, ?_⟩
      · show (toPyA xs).map _ = _
        rw [h1]
        rfl
      · show PyData.depthAll (toPA xs) + 1 ≤ n + 1
        omega
    | tup xs =>
      obtain ⟨h1, h2, h3⟩ := lists n ih xs h
      refine ⟨?_, h2, ?_⟩
      · show (toPyA xs).map _ = _
        rw [h1]
        rfl
      · show PyData.depthAll (toPA xs) + 1 ≤ n + 1
        omega
    | _ => cases h
theorem eqv_iff : ∀ (n : Nat) (x y : D), sh n x = true → sh n y = true → (PyData.eqv (toP x) (toP y) = true ↔ x = y) := by
  have lists : ∀ (n : Nat), (∀ x y : D, sh n x = true → sh n y = true → (PyData.eqv (toP x) (toP y) = true ↔ x = y)) → ∀ xs ys : List D, xs.all (sh n) = true → ys.all (sh n) = true → (PyData.eqvAll (toPA xs) (toPA ys) = true ↔ xs = ys) := by
    intro n ih xs
    induction xs with
    | nil =>
      intro ys _ _
      cases ys with
      | nil => exact ⟨fun _ => rfl, fun _ => rfl⟩
      | cons y ys => exact ⟨fun h => (by cases h), fun h => (by cases h)⟩
    | cons x xs ihx =>
      intro ys hx hy
      cases ys with
      | nil => exact ⟨fun h => (by cases h), fun h => (by cases h)⟩
      | cons y ys =>
        rw [List.all_cons, Bool.and_eq_true] at hx hy
        have h1 := ih x y hx.1 hy.1
        have h2 := ihx ys hx.2 hy.2
        show (PyData.eqv (toP x) (toP y) && PyData.eqvAll (toPA xs) (toPA ys)) = true ↔ _
        rw [Bool.and_eq_true, h1, h2]
        exact ⟨fun ⟨a, b⟩ => by rw [a, b], fun h => ⟨(List.cons.inj h).1, (List.cons.inj h).2⟩⟩
  intro n
  induction n with
  | zero =>
    intro x y hx hy
    cases x <;> try cases hx
    all_goals cases y <;> try cases hy
    all_goals simp [toP, PyData.eqv]
  | succ n ih =>
    intro x y hx hy
    cases x <;> try cases hx
    all_goals cases y <;> try cases hy
    any_goals (simp [toP, PyData.eqv]; done)
    · rename_i xs ys
      have := lists n ih xs ys hx hy
      simp only [toP, PyData.eqv, D.lst.injEq]
      exact this
    · rename_i xs ys
      have := lists n ih xs ys hx hy
      simp only [toP, PyData.eqv, D.tup.injEq]
      exact this
theorem shaped_of {n : Nat} {x : D} (hn : n ≤ 64) (h : sh n x = true) : SeqAt.shaped (toP x) = true := by
  obtain ⟨_, h2, h3⟩ := sh_py n x h
  unfold SeqAt.shaped
  rw [h2, Bool.true_and]
  exact decide_eq_true (by omega)
theorem eqS_iff {neg : Bool} {x y z : D} (h : eqS neg x y = some z) : ∃ b, z = .bl (neg ^^ b) ∧ (b = true ↔ x = y) := by
  cases x <;> try cases h
  all_goals cases y <;> try cases h
  · exact ⟨_, rfl, by rw [decide_eq_true_eq]; exact ⟨fun h => by rw [h], fun h => by cases h; rfl⟩⟩
  · exact ⟨_, rfl, by rw [decide_eq_true_eq]; exact ⟨fun h => by rw [h], fun h => by cases h; rfl⟩⟩
  · exact ⟨_, rfl, by rw [decide_eq_true_eq]; exact ⟨fun h => by rw [h], fun h => by cases h; rfl⟩⟩
theorem beq_iff {neg : Bool} {n : Nat} {x y : D} (hn : n ≤ 64) (hx : sh n x = true) (hy : sh n y = true) : ∃ b, bEqN neg x y = some (.bl (neg ^^ b)) ∧ (b = true ↔ x = y) := by
  cases e : eqS neg x y with
  | some z =>
    obtain ⟨b, rfl, h⟩ := eqS_iff e
    exact ⟨b, by unfold bEqN; rw [e]; rfl, h⟩
  | none =>
    refine ⟨PyData.eqv (toP x) (toP y), ?_, eqv_iff n x y hx hy⟩
    unfold bEqN
    rw [e]
    show eqP neg x y = _
    unfold eqP
    rw [(sh_py n x hx).1, (sh_py n y hy).1]
    exact if_pos ⟨shaped_of hn hx, shaped_of hn hy⟩
theorem beq_ob {neg : Bool} {n : Nat} {x y : D} {P : D → Prop} (hn : n ≤ 64) (hx : sh n x = true) (hy : sh n y = true) (h1 : x = y → P (.bl (!neg))) (h2 : x ≠ y → P (.bl neg)) : ob (bEqN neg x y) P := by
  obtain ⟨b, e, h⟩ := beq_iff (neg := neg) hn hx hy
  rw [e]
  cases b with
  | true => have := h1 (h.mp rfl); cases neg <;> exact this
  | false => have := h2 (fun z => by have := h.mpr z; cases this); cases neg <;> exact this
theorem name_ok {z : Str} (h : NameOk z) : PyData.strOk z = true := by
  unfold PyData.strOk
  rw [← Array.all_toList, List.all_eq_true]
  intro c hc
  have := h.2.2 c hc
  unfold Low at this
  exact decide_eq_true (by omega)
theorem sh_names {n : Nat} {zs : List Str} (h : ∀ z ∈ zs, NameOk z) : sh (n + 1) (.lst (zs.map D.str)) = true := by
  show (zs.map D.str).all (sh n) = true
  rw [List.all_eq_true]
  intro d hd
  obtain ⟨z, hz, rfl⟩ := List.mem_map.mp hd
  have := name_ok (h z hz)
  cases n <;> exact this
def likeD : Nat → D → Bool
  | n + 1, .lst xs => decide (xs.length ≤ 100000) && xs.all (likeD n)
  | n + 1, .tup xs => decide (xs.length ≤ 100000) && xs.all (likeD n)
  | _, .non => true
  | _, .bl _ => true
  | _, .int _ => true
  | _, .str x => PyData.strOk x
  | _, _ => false
def sp_like : Nat → DSp
  | 0 => fun _ _ => False
  | n + 1 => fun ds P => ∃ x, ds = [x, x] ∧ likeD n x = true ∧ P (.bl true)
def d_like (sp_like : DSp) : TDS := (sSeq (sIf (dOrT (dT (dO2 (bEqN true) (dIs "tuple" (dV 1)) (dIs "tuple" (dV 0)))) (dT (dO2 (bEqN true) (dIs "list" (dV 1)) (dIs "list" (dV 0))))) (sRet (dC (.bl false))) sNil)
  (sSeq (sIf (dNotT (dT (dIsA ["tuple", "list"] (dV 1)))) (sRet (dAndV (dO2 (bEqN false) (dIs "bool" (dV 0)) (dIs "bool" (dV 1))) (dO2 (bEqN false) (dV 0) (dV 1)))) sNil)
  (sRet (dAndV (dO2 (bEqN false) (dCa lenD (aCons (dV 0) aNil)) (dCa lenD (aCons (dV 1) aNil))) (dCa allD (aCons (dLc (iRng (aCons (dCa lenD (aCons (dV 1) aNil)) aNil)) (gNm 2) tYesD (dCall sp_like (aCons (dO2 bIx (dV 0) (dV 2)) (aCons (dO2 bIx (dV 1) (dV 2)) aNil))) [2]) aNil))))))
theorem beq_self {x : D} (h : likeD 0 x = true) : bEqN false x x = some (.bl true) := by
  cases x <;> try cases h
  · rfl
  · simp [bEqN, eqS]
  · simp [bEqN, eqS]
  · simp [bEqN, eqS]
theorem rng_map (n : Nat) : rngD 0 n = (List.range n).map fun k => D.int ((k : Nat) : Int) := by
  unfold rngD
  exact List.map_congr_left fun k _ => by rw [Int.zero_add]
theorem rd_like {n : Nat} {ds : List D} {P : D → Prop} (h : sp_like (n + 1) ds P) : d_like (sp_like n) (fin false P) (st 3 ds) := by
  obtain ⟨x, rfl, hx, q⟩ := h
  have isb : ∀ b : Bool, bEqN true (.bl b) (.bl b) = some (.bl false) := fun b => by simp [bEqN, eqS]
  have isc : ∀ b : Bool, bEqN false (.bl b) (.bl b) = some (.bl true) := fun b => by simp [bEqN, eqS]
  have ty : ∀ T, T = "tuple" ∨ T = "list" ∨ T = "bool" → ∃ b, isD T x = some b := by
    intro T hT
    have key : ∀ t, t ∈ ["NoneType", "bool", "int", "str", "list", "tuple"] → ∃ b, kitB t T = some b := by
      intro t ht
      simp only [List.mem_cons, List.not_mem_nil, or_false] at ht
      rcases ht with rfl | rfl | rfl | rfl | rfl | rfl <;> rcases hT with rfl | rfl | rfl <;> first | exact ⟨true, by decide +kernel⟩ | exact ⟨false, by decide +kernel⟩
    unfold isD
    cases n <;> cases x <;> first | (cases hx; done) | exact key _ (by simp)
  obtain ⟨b1, h1⟩ := ty "tuple" (.inl rfl)
  obtain ⟨b2, h2⟩ := ty "list" (.inr (.inl rfl))
  obtain ⟨b3, h3⟩ := ty "bool" (.inr (.inr rfl))
  have hany : isAnyD x ["tuple", "list"] = some (b1 || b2) := by
    unfold isAnyD isAnyD isAnyD
    rw [h1, h2]
    cases b1 <;> cases b2 <;> rfl
  have seqs : ∀ (xs : List D), (x = .lst xs ∨ x = .tup xs) → xs.length ≤ 100000 → (∀ y ∈ xs, likeD (n - 1) y = true) → 1 ≤ n → lenD [x] = some (.int xs.length) → (∀ k : Nat, ∀ y, xs[k]? = some y → bIx x (.int ((k : Nat) : Int)) = some y) → (b1 || b2) = true → d_like (sp_like n) (fin false P) (st 3 [x, x]) := by
    intro xs _ hl hall hn hlen hix hb
    simp only [d_like, dC, dV, dB, dO2, ob_some, dT, dAndT, dOrT, dNotT, dIf, dAndV, dOrV, dNotV, dChain, aNil, aCons, dTup, dLst, dCut, oNone, oSome, dRev, dNeg, dTru, dCa, dIs, dIsA, dCall, dCallK, sNil, sSeq, sNever, sBrk, sCont, sIf, sRet, sRetO, sRetE, sSet, sSetO, sDrop, sPar, sPar3, kn, enOf, owD, sAsg, gNm, gsNil, gsCons, gTp, sApp, sIns, sExt, sClr, sRev, sPut, sFrz, owAt, fin, st, iRng, iRngB, iSeq, lstD, tupD, sFor, dLc, dDc, wipeE, tYesD, dIndex, dSort, dDictZip, dMeth, dFld, dMk, List.map_cons, List.map_nil, List.length_cons, List.length_nil, List.replicate_succ, List.replicate_zero, List.cons_append, List.nil_append, List.append_nil, List.getElem?_cons_zero, List.getElem?_cons_succ, List.set_cons_zero, List.set_cons_succ, Option.bind_some, Option.map_some, Nat.reduceSub, Nat.reduceAdd, kwP, List.getD_cons_zero, List.getD_cons_succ, h1, h2, isb, hany, hb, hlen, bEq_i, decide_true, if_true, Bool.not_true, Bool.false_eq_true, if_false]
    refine ⟨by omega, by omega, ?_⟩
    rw [Int.toNat_natCast, rng_map]
    refine comp_map (fun k : Nat => D.int ((k : Nat) : Int)) (fun _ => D.bl true) (List.range xs.length) [] (fun k hk Q Z hQ => ?_) (by simp; omega) ?_
    · have hk' : k < xs.length := List.mem_range.mp hk
      simp only [dC, dV, dB, dO2, ob_some, dT, dAndT, dOrT, dNotT, dIf, dAndV, dOrV, dNotV, dChain, aNil, aCons, dTup, dLst, dCut, oNone, oSome, dRev, dNeg, dTru, dCa, dIs, dIsA, dCall, dCallK, sNil, sSeq, sNever, sBrk, sCont, sIf, sRet, sRetO, sRetE, sSet, sSetO, sDrop, sPar, sPar3, kn, enOf, owD, sAsg, gNm, gsNil, gsCons, gTp, sApp, sIns, sExt, sClr, sRev, sPut, sFrz, owAt, fin, st, iRng, iRngB, iSeq, lstD, tupD, sFor, dLc, dDc, wipeE, tYesD, dIndex, dSort, dDictZip, dMeth, dFld, dMk, List.map_cons, List.map_nil, List.length_cons, List.length_nil, List.replicate_succ, List.replicate_zero, List.cons_append, List.nil_append, List.append_nil, List.getElem?_cons_zero, List.getElem?_cons_succ, List.set_cons_zero, List.set_cons_succ, Option.bind_some, Option.map_some, Nat.reduceSub, Nat.reduceAdd, kwP, List.getD_cons_zero, List.getD_cons_succ, hix k _ (List.getElem?_eq_getElem hk'), if_true]
      obtain ⟨m, rfl⟩ : ∃ m, n = m + 1 := ⟨n - 1, by omega⟩
      exact ⟨_, rfl, hall _ (List.getElem_mem hk'), hQ⟩
    · have e : ((List.range xs.length).map fun _ => D.bl true) = (List.replicate xs.length true).map D.bl := by
        rw [List.map_replicate, List.map_const', List.length_range]
      rw [List.nil_append, e]
      show ob (allD [.lst ((List.replicate xs.length true).map D.bl)]) P
      rw [allD_map]
      show P (.bl ((List.replicate xs.length true).all id))
      have : (List.replicate xs.length true).all id = true := by
        rw [List.all_eq_true]
        intro b hb
        exact (List.mem_replicate.mp hb).2
      rw [this]
      exact q
  have leafs : likeD 0 x = true → isD "tuple" x = some false → isD "list" x = some false → d_like (sp_like n) (fin false P) (st 3 [x, x]) := by
    intro hl e1 e2
    have hany : isAnyD x ["tuple", "list"] = some false := by
      unfold isAnyD isAnyD isAnyD
      rw [e1, e2]
      rfl
    simp only [d_like, dC, dV, dB, dO2, ob_some, dT, dAndT, dOrT, dNotT, dIf, dAndV, dOrV, dNotV, dChain, aNil, aCons, dTup, dLst, dCut, oNone, oSome, dRev, dNeg, dTru, dCa, dIs, dIsA, dCall, dCallK, sNil, sSeq, sNever, sBrk, sCont, sIf, sRet, sRetO, sRetE, sSet, sSetO, sDrop, sPar, sPar3, kn, enOf, owD, sAsg, gNm, gsNil, gsCons, gTp, sApp, sIns, sExt, sClr, sRev, sPut, sFrz, owAt, fin, st, iRng, iRngB, iSeq, lstD, tupD, sFor, dLc, dDc, wipeE, tYesD, dIndex, dSort, dDictZip, dMeth, dFld, dMk, List.map_cons, List.map_nil, List.length_cons, List.length_nil, List.replicate_succ, List.replicate_zero, List.cons_append, List.nil_append, List.append_nil, List.getElem?_cons_zero, List.getElem?_cons_succ, List.set_cons_zero, List.set_cons_succ, Option.bind_some, Option.map_some, Nat.reduceSub, Nat.reduceAdd, kwP, List.getD_cons_zero, List.getD_cons_succ, e1, e2, h3, isb, isc, hany, beq_self hl, if_true, Bool.not_false, Bool.false_eq_true, if_false]
    exact q
  cases x with
  | lst xs =>
    cases n with
    | zero => cases hx
    | succ n =>
      have hx' : (decide (xs.length ≤ 100000) && xs.all (likeD n)) = true := hx
      rw [Bool.and_eq_true] at hx'
      refine seqs xs (.inl rfl) (of_decide_eq_true hx'.1) (fun y hy => List.all_eq_true.mp hx'.2 y hy) (by omega) rfl (fun k y h => bIx_l h) ?_
      have : b2 = true := by
        have : isD "list" (.lst xs) = some true := (by decide +kernel : kitB "list" "list" = some true)
        rw [h2] at this
        exact Option.some.inj this
      rw [this]
      simp
  | tup xs =>
    cases n with
    | zero => cases hx
    | succ n =>
      have hx' : (decide (xs.length ≤ 100000) && xs.all (likeD n)) = true := hx
      rw [Bool.and_eq_true] at hx'
      refine seqs xs (.inr rfl) (of_decide_eq_true hx'.1) (fun y hy => List.all_eq_true.mp hx'.2 y hy) (by omega) rfl (fun k y h => bIx_tp h) ?_
      have : b1 = true := by
        have : isD "tuple" (.tup xs) = some true := (by decide +kernel : kitB "tuple" "tuple" = some true)
        rw [h1] at this
        exact Option.some.inj this
      rw [this]
      simp
  | non => exact leafs rfl (by decide +kernel) (by decide +kernel)
  | bl b => exact leafs rfl (by show kitB "bool" "tuple" = some false; decide +kernel) (by show kitB "bool" "list" = some false; decide +kernel)
  | int i => exact leafs rfl (by show kitB "int" "tuple" = some false; decide +kernel) (by show kitB "int" "list" = some false; decide +kernel)
  | str z => exact leafs (by cases n <;> exact hx) (by show kitB "str" "tuple" = some false; decide +kernel) (by show kitB "str" "list" = some false; decide +kernel)
  | _ => cases n <;> cases hx
end DL
namespace DL
open PySem PySem.Spec PyProof.Rows L2 RK
abbrev Win := Str × R
def wk (w : Win) : Key × D := (Sum.inr w.1, rectD w.2)
def winD (ws : List Win) : D := .dic (ws.map wk)
def nms (ws : List Win) : List Str := ws.map (·.1)
structure WOk (ws : List Win) : Prop where
  nd : (nms ws).Nodup
  nm : ∀ w ∈ ws, NameOk w.1
  gd : ∀ w ∈ ws, w.2.good
def Sm (p : R) : Prop := p.good ∧ p.r - p.l ≤ 400000000 ∧ p.b - p.t ≤ 400000000
theorem sm_scaled {c x y x2 y2 : Int} (c0 : 1 ≤ c) (c1 : c ≤ 100000000) (a1 : -4 ≤ x) (a2 : x ≤ 4) (a3 : -4 ≤ y) (a4 : y ≤ 4) (a5 : x < x2) (a6 : x2 ≤ x + 4) (a7 : y < y2) (a8 : y2 ≤ y + 4) : Sm ⟨c * x, c * y, c * x2, c * y2⟩ := by
  refine ⟨good_scaled c0 c1 a1 a2 a3 a4 a5 a6 a7 a8, ?_, ?_⟩
  · show c * x2 - c * x ≤ 400000000
    rw [← Int.mul_sub]
    have h1 : c * (x2 - x) ≤ c * 4 := Int.mul_le_mul_of_nonneg_left (by omega) (by omega)
    omega
  · show c * y2 - c * y ≤ 400000000
    rw [← Int.mul_sub]
    have h1 : c * (y2 - y) ≤ c * 4 := Int.mul_le_mul_of_nonneg_left (by omega) (by omega)
    omega
theorem WOk.perm {ws us : List Win} (h : WOk ws) (p : us.Perm ws) : WOk us := ⟨(p.map _).nodup_iff.mpr h.nd, fun w hw => h.nm w (p.mem_iff.mp hw), fun w hw => h.gd w (p.mem_iff.mp hw)⟩
theorem perm_str {ys : List D} {zs : List Str} (h : ys.Perm (zs.map D.str)) : ∃ us : List Str, ys = us.map D.str ∧ us.Perm zs := by
  have key : ∀ (ys : List D), (∀ y ∈ ys, ∃ z, y = D.str z) → ∃ us : List Str, ys = us.map D.str := by
    intro ys
    induction ys with
    | nil => intro _; exact ⟨[], rfl⟩
    | cons y ys ih =>
      intro h
      obtain ⟨z, rfl⟩ := h y List.mem_cons_self
      obtain ⟨us, rfl⟩ := ih fun w hw => h w (List.mem_cons_of_mem _ hw)
      exact ⟨z :: us, rfl⟩
  obtain ⟨us, rfl⟩ := key ys fun y hy => by
    obtain ⟨z, _, e⟩ := List.mem_map.mp (h.mem_iff.mp hy)
    exact ⟨z, e.symm⟩
  refine ⟨us, rfl, ?_⟩
  have h2 := h.map fun d => match d with | D.str z => z | _ => Str.empty
  rw [List.map_map, List.map_map] at h2
  have e : ((fun d => match d with | D.str z => z | _ => Str.empty) ∘ D.str) = id := rfl
  rw [e, List.map_id, List.map_id] at h2
  exact h2
theorem bPow_i {i j : Int} (h : 0 ≤ j ∧ j ≤ 1000000 ∧ i.natAbs < 2 ^ 64) : bPow (.int i) (.int j) = some (.int (i ^ j.toNat)) := by
  show (if decide _ = true then some (D.int (i ^ j.toNat)) else none) = _
  rw [if_pos (decide_eq_true h)]
end DL
namespace DL
open PySem PySem.Spec PyProof.Rows L2 RK
instance (p : R) : Decidable p.good := by unfold R.good; infer_instance
instance (p : R) (x y : Int) : Decidable (p.has x y) := by unfold R.has; infer_instance
instance (c : Nat) : Decidable (Low c) := by unfold Low; infer_instance
instance (z : Str) : Decidable (NameOk z) := by unfold NameOk; infer_instance
end DL
namespace DL
open PySem PySem.Spec PyProof.Rows L2 RK
def look (us : List Win) (z : Str) : Option R := (us.find? fun w => decide (w.1 = z)).map (·.2)
def IsSeq (d : D) (zs : List Str) : Prop := d = .lst (zs.map D.str) ∨ d = .tup (zs.map D.str)
theorem len_strs {d : D} {zs : List Str} (h : IsSeq d zs) : lenD [d] = some (.int zs.length) := by
  rcases h with rfl | rfl
  · show some (D.int ((zs.map D.str).length : Int)) = _
    rw [List.length_map]
  · show some (D.int ((zs.map D.str).length : Int)) = _
    rw [List.length_map]
def SortW (us : List Win) : Prop := (nms us).Pairwise leS
end DL
namespace DL
open PySem PySem.Spec PyProof.Rows L2 RK
theorem ln_of {ds : List D} {P : D → Prop} (h : sp_of ds P) : ds.length = 2 := by
  rcases h with ⟨xs, h | h, _⟩ | ⟨z, h, _⟩ <;> (subst h; rfl)
theorem ln_mixed {ds : List D} {P : D → Prop} (h : sp_mixed ds P) : ds.length = 2 := by
  rcases h with ⟨xs, h | h, _⟩ <;> (subst h; rfl)
theorem ln_rectangle {ds : List D} {P : D → Prop} (h : sp_rectangle ds P) : ds.length = 2 := by obtain ⟨_, rfl, _⟩ := h; rfl
theorem ln_names {ds : List D} {P : D → Prop} (h : sp_names ds P) : ds.length = 2 := by obtain ⟨_, rfl, _⟩ := h; rfl
end DL
namespace DL
open PySem PySem.Spec PyProof.Rows L2 RK
def mx (i j : Int) : Int := if j > i then j else i
def mn (i j : Int) : Int := if j < i then j else i
def meetB (p q : R) : Bool := decide (mx p.l q.l < mn p.r q.r) && decide (mx p.t q.t < mn p.b q.b)
theorem mn_d (i j : Int) : min2D [.int i, .int j] = some (.int (mn i j)) := rfl
def ovl (us : List Win) (a b : Str) : Bool := match look us a, look us b with | some p, some q => meetB p q | _, _ => false
def prs (ov : Str → Str → Bool) : List Str → List SP
  | [] => []
  | n :: r => (r.filter (ov n)).map (fun m => (n, m)) ++ prs ov r
def ltS (a b : Str) : Bool := decide (a.cps.toList < b.cps.toList)
def ixS : List Str → Str → Nat
  | [], _ => 0
  | y :: r, z => if y = z then 0 else ixS r z + 1
end DL
namespace DL
open PySem PySem.Spec PyProof.Rows L2 RK
inductive Sc where
  | mv (up : Bool) (ns : List Str)
  | pl (n : Str) (r : R)
  | rp (c : Int) (ss : List Sc)
def Sc.word : Sc → Str
  | .mv true _ => "raise"
  | .mv false _ => "lower"
  | .pl _ _ => "place"
  | .rp _ _ => "repeat"
mutual
def Sc.d : Sc → D
  | .mv true ns => .tup [.str "raise", .lst (ns.map D.str)]
  | .mv false ns => .tup [.str "lower", .lst (ns.map D.str)]
  | .pl n r => .tup [.str "place", .str n, rectD r]
  | .rp c ss => .tup [.str "repeat", .int c, .lst (Sc.ds ss)]
def Sc.ds : List Sc → List D
  | [] => []
  | s :: ss => s.d :: Sc.ds ss
end
theorem ds_map : ∀ ss : List Sc, Sc.ds ss = ss.map Sc.d
  | [] => by rw [Sc.ds]; rfl
  | s :: ss => by rw [Sc.ds, ds_map ss]; rfl
def IsSs (d : D) (ss : List Sc) : Prop := d = .lst (ss.map Sc.d) ∨ d = .tup (ss.map Sc.d)
theorem Sc.items (s : Sc) : ∃ xs, s.d = .tup (.str s.word :: xs) := by
  cases s with
  | mv up ns => cases up <;> exact ⟨_, by rw [Sc.d]; rfl⟩
  | pl n r => exact ⟨_, by rw [Sc.d]; rfl⟩
  | rp c ss => exact ⟨_, by rw [Sc.d]; rfl⟩
def Sc.isRp : Sc → Bool
  | .rp _ _ => true
  | _ => false
theorem word_rp (s : Sc) : decide (s.word = "repeat") = s.isRp := by
  cases s with
  | mv up ns =>
    cases up
    · exact (by decide +kernel : decide (("lower" : Str) = "repeat") = false)
    · exact (by decide +kernel : decide (("raise" : Str) = "repeat") = false)
  | pl n r => exact (by decide +kernel : decide (("place" : Str) = "repeat") = false)
  | rp c ss => exact (by decide +kernel : decide (("repeat" : Str) = "repeat") = true)
end DL
namespace DL
open PySem PySem.Spec PyProof.Rows L2 RK
theorem dIn_map {β : Type} {g : TDG} {tt : TDT} {te : TDE} {k : List D → Prop} {env : De} (enc h : β → D) : ∀ (l : List β) (acc : List D), (∀ b ∈ l, ∀ (Q : D → Prop) (Z : Prop), Q (h b) → g (enc b) env fun env' => tt env' fun c => if c = true then te env' Q else Z) → acc.length + l.length ≤ 1000000 →
    k (acc ++ l.map h) → dIn g tt te k env (l.map enc) acc
  | [], acc, _, _, q => by
    rw [List.map_nil, List.append_nil] at q
    exact q
  | b :: l, acc, hs, hl, q => hs b List.mem_cons_self _ _ (by
      refine ⟨szM (by simp at hl; omega), dIn_map enc h l (acc ++ [h b]) (fun c hc => hs c (List.mem_cons_of_mem _ hc)) (by simp at hl ⊢; omega) ?_⟩
      rw [List.append_assoc]
      exact q)
theorem comp2_map {α β : Type} {g g1 : TDG} {tt tt1 : TDT} {it1 : TDI} {te : TDE} {vs1 : List Nat} {P : D → Prop} {env : De} (enc : α → D) (enc1 h : β → D) (f : α → List β) (S : α → De → Prop) : ∀ (l : List α) (acc : List D),
    (∀ a ∈ l, ∀ (K : De → List D → Prop) (Z : Prop), (∀ env', S a env' → K env' ((f a).map enc1)) → g (enc a) env fun env' => tt env' fun b => if b = true then it1 env' (K env') else Z) →
    (∀ a ∈ l, ∀ env', S a env' → ∀ b ∈ f a, ∀ (Q : D → Prop) (Z : Prop), Q (h b) → g1 (enc1 b) (wipeE env' vs1) fun e2 => tt1 e2 fun c => if c = true then te e2 Q else Z) → acc.length + (l.flatMap f).length ≤ 1000000 →
    P (.lst (acc ++ (l.flatMap f).map h)) → dComp2 g tt it1 g1 tt1 te vs1 P env (l.map enc) acc
  | [], acc, _, _, _, q => by
    rw [List.flatMap_nil, List.map_nil, List.append_nil] at q
    exact q
  | a :: l, acc, h1, h2, hl, q => by
    rw [List.flatMap_cons, List.length_append] at hl
    refine h1 a List.mem_cons_self (fun env' ys => dIn g1 tt1 te (fun acc' => dComp2 g tt it1 g1 tt1 te vs1 P env (l.map enc) acc') (wipeE env' vs1) ys acc) _ fun env' hs => ?_
    refine dIn_map enc1 h (f a) acc (fun b hb => h2 a List.mem_cons_self env' hs b hb) (by omega) ?_
    refine comp2_map enc enc1 h f S l _ (fun b hb => h1 b (List.mem_cons_of_mem _ hb)) (fun b hb => h2 b (List.mem_cons_of_mem _ hb)) (by rw [List.length_append, List.length_map]; omega) ?_
    rw [List.append_assoc, ← List.map_append]
    rw [List.flatMap_cons] at q
    exact q
inductive Dp : Nat → Sc → Prop
  | mv {n : Nat} {up : Bool} {ns : List Str} : Dp n (.mv up ns)
  | pl {n : Nat} {x : Str} {r : R} : Dp n (.pl x r)
  | rp {n : Nat} {c : Int} {ss : List Sc} : (∀ s ∈ ss, Dp n s) → Dp (n + 1) (.rp c ss)
theorem Dp.up {n : Nat} {s : Sc} (h : Dp n s) : Dp (n + 1) s := by
  induction h with
  | mv => exact .mv
  | pl => exact .pl
  | rp _ ih => exact .rp ih
mutual
def Sc.sz : Sc → Nat
  | .mv _ _ => 1
  | .pl _ _ => 1
  | .rp _ ss => 1 + Sc.szs ss
def Sc.szs : List Sc → Nat
  | [] => 0
  | s :: ss => s.sz + Sc.szs ss
end
def Sc.inner : Sc → List Sc
  | .rp _ ss => ss
  | _ => []
theorem sz_pos (s : Sc) : 1 + Sc.szs s.inner = s.sz := by
  cases s <;> simp [Sc.sz, Sc.inner, Sc.szs]
theorem len_szs : ∀ ss : List Sc, ss.length ≤ Sc.szs ss
  | [] => Nat.zero_le _
  | s :: ss => by
    rw [Sc.szs, List.length_cons]
    have := len_szs ss
    have := sz_pos s
    omega
theorem szs_app : ∀ a b : List Sc, Sc.szs (a ++ b) = Sc.szs a + Sc.szs b
  | [], b => by rw [List.nil_append, Sc.szs]; omega
  | s :: a, b => by
    rw [List.cons_append, Sc.szs, Sc.szs, szs_app a b]
    omega
theorem szs_mem : ∀ {ss : List Sc} {s : Sc}, s ∈ ss → s.sz ≤ Sc.szs ss
  | [], _, h => by cases h
  | t :: ss, s, h => by
    rw [Sc.szs]
    rcases List.mem_cons.mp h with rfl | h
    · omega
    · have := szs_mem h
      omega
def nxt (ss : List Sc) : List Sc := (ss.filter Sc.isRp).flatMap Sc.inner
theorem szs_nxt : ∀ ss : List Sc, ss.length + Sc.szs (nxt ss) = Sc.szs ss
  | [] => rfl
  | s :: ss => by
    have ih := szs_nxt ss
    unfold nxt at ih ⊢
    rw [Sc.szs, List.length_cons]
    have := sz_pos s
    cases h : s.isRp with
    | true =>
      rw [List.filter_cons_of_pos h, List.flatMap_cons, szs_app]
      omega
    | false =>
      rw [List.filter_cons_of_neg (by rw [h]; exact Bool.false_ne_true)]
      have e : Sc.szs s.inner = 0 := by cases s <;> first | rfl | cases h
      omega
theorem dp_nxt {n : Nat} {ss : List Sc} (h : ∀ s ∈ ss, Dp (n + 1) s) : ∀ s ∈ nxt ss, Dp n s := fun s hs => by
  obtain ⟨r, hr, hi⟩ := List.mem_flatMap.mp hs
  have := h r (List.mem_filter.mp hr).1
  cases this with
  | mv => cases hi
  | pl => cases hi
  | rp q => exact q s hi
def lev : Nat → List Sc → List (List Sc)
  | 0, ss => [ss]
  | n + 1, ss => if (ss.filter Sc.isRp).isEmpty = true then [ss] else ss :: lev n (nxt ss)
theorem lev_sum : ∀ {n : Nat} {ss : List Sc}, (∀ s ∈ ss, Dp n s) → ((lev n ss).map List.length).sum = Sc.szs ss
  | 0, ss, h => by
    rw [lev, List.map_cons, List.map_nil, List.sum_cons, List.sum_nil]
    have := szs_nxt ss
    have e : nxt ss = [] := by
      unfold nxt
      rw [List.filter_eq_nil_iff.mpr fun s hs => by have := h s hs; cases this <;> exact Bool.false_ne_true]
      rfl
    rw [e, Sc.szs] at this
    omega
  | n + 1, ss, h => by
    have := szs_nxt ss
    rw [lev]
    split
    · rename_i e
      rw [List.map_cons, List.map_nil, List.sum_cons, List.sum_nil]
      have e2 : nxt ss = [] := by
        unfold nxt
        rw [List.isEmpty_iff.mp e]
        rfl
      rw [e2, Sc.szs] at this
      omega
    · rw [List.map_cons, List.sum_cons, lev_sum (dp_nxt h)]
      omega
end DL
namespace DL
open PySem PySem.Spec PyProof.Rows L2 RK
theorem lev_mem : ∀ {n : Nat} {ss l : List Sc}, l ∈ lev n ss → l.length ≤ Sc.szs ss
  | 0, ss, l, h => by
    rw [lev, List.mem_singleton] at h
    rw [h]
    exact len_szs ss
  | n + 1, ss, l, h => by
    rw [lev] at h
    split at h
    · rw [List.mem_singleton] at h
      rw [h]
      exact len_szs ss
    · rcases List.mem_cons.mp h with rfl | h
      · exact len_szs _
      · have h1 := lev_mem h
        have h2 := szs_nxt ss
        omega
def RtM (nm ns : List Str) : Prop := ns ≠ [] ∧ ns.Nodup ∧ (∀ n ∈ ns, n ∈ nm) ∧ ns.length ≤ 1000
inductive Rt (nm : List Str) : Sc → Prop
  | mv {up : Bool} {ns : List Str} : RtM nm ns → Rt nm (.mv up ns)
  | pl {n : Str} {r : R} : n ∈ nm → r.good → Rt nm (.pl n r)
  | rp {c : Int} {ss : List Sc} : 0 ≤ c → c ≤ 1000000000000000000 → ss.length ≤ 100000 → (∀ s ∈ ss, Rt nm s) → Rt nm (.rp c ss)
end DL
namespace DL
open PySem PySem.Spec PyProof.Rows L2 RK
mutual
def Sc.fl : Sc → List Sc
  | .mv up ns => [.mv up ns]
  | .pl n r => [.pl n r]
  | .rp c ss => if c = 0 then [] else Sc.fls ss
def Sc.fls : List Sc → List Sc
  | [] => []
  | s :: ss => s.fl ++ Sc.fls ss
end
theorem fls_app : ∀ a b : List Sc, Sc.fls (a ++ b) = Sc.fls a ++ Sc.fls b
  | [], b => by rw [List.nil_append, Sc.fls, List.nil_append]
  | s :: a, b => by rw [List.cons_append, Sc.fls, Sc.fls, fls_app a b, List.append_assoc]
mutual
theorem fl_len : ∀ s : Sc, s.fl.length ≤ s.sz
  | .mv up ns => by rw [Sc.fl, Sc.sz]; exact Nat.le_refl _
  | .pl n r => by rw [Sc.fl, Sc.sz]; exact Nat.le_refl _
  | .rp c ss => by
    rw [Sc.fl, Sc.sz]
    have := fls_len ss
    split
    · simp
    · omega
theorem fls_len : ∀ ss : List Sc, (Sc.fls ss).length ≤ Sc.szs ss
  | [] => by rw [Sc.fls, Sc.szs]; exact Nat.le_refl _
  | s :: ss => by
    rw [Sc.fls, Sc.szs, List.length_append]
    have := fl_len s
    have := fls_len ss
    omega
end
def sp_flat : Nat → DSp
  | 0 => fun _ _ => False
  | n + 1 => fun ds P => ∃ d ss, ds = [d] ∧ IsSs d ss ∧ (∀ s ∈ ss, Dp n s) ∧ Sc.szs ss ≤ 100000 ∧ P (.lst ((Sc.fls ss).map Sc.d))
end DL
namespace DL
open PySem PySem.Spec PyProof.Rows L2 RK
def plW (us : List Win) (n : Str) (r : R) : List Win := us.map fun w => if w.1 = n then (n, r) else w
theorem nms_pl (us : List Win) (n : Str) (r : R) : nms (plW us n r) = nms us := by
  unfold nms plW
  rw [List.map_map]
  refine List.map_congr_left fun w _ => ?_
  show (if w.1 = n then (n, r) else w).1 = w.1
  by_cases h : w.1 = n
  · rw [if_pos h]; exact h.symm
  · rw [if_neg h]
theorem pl_ok {us : List Win} (W : WOk us) {n : Str} {r : R} (g : r.good) (hn : n ∈ nms us) : WOk (plW us n r) := by
  refine ⟨by rw [nms_pl]; exact W.nd, fun w hw => ?_, fun w hw => ?_⟩
  · obtain ⟨v, hv, rfl⟩ := List.mem_map.mp hw
    by_cases h : v.1 = n
    · rw [if_pos h]; rw [← h]; exact W.nm v hv
    · rw [if_neg h]; exact W.nm v hv
  · obtain ⟨v, hv, rfl⟩ := List.mem_map.mp hw
    by_cases h : v.1 = n
    · rw [if_pos h]; exact g
    · rw [if_neg h]; exact W.gd v hv
structure DkOk (us : List Win) : Prop where
  w : WOk us
  s : SortW us
  l1 : 1 ≤ us.length
  l2 : us.length ≤ 24
theorem DkOk.pl {us : List Win} (h : DkOk us) {n : Str} {r : R} (g : r.good) (hn : n ∈ nms us) : DkOk (plW us n r) :=
  ⟨pl_ok h.w g hn, by unfold SortW; rw [nms_pl]; exact h.s, by unfold plW; rw [List.length_map]; exact h.l1, by unfold plW; rw [List.length_map]; exact h.l2⟩
theorem bEq_s (a b : Str) : bEqN false (.str a) (.str b) = some (.bl (decide (a = b))) := by
  show (some (D.bl (false ^^ decide (a = b)))).or _ = _
  rw [Bool.false_xor]
  rfl
theorem bNe_s (a b : Str) : bEqN true (.str a) (.str b) = some (.bl (!decide (a = b))) := by
  show (some (D.bl (true ^^ decide (a = b)))).or _ = _
  rw [Bool.true_xor]
  rfl
theorem mv_d (up : Bool) (ns : List Str) : (Sc.mv up ns).d = .tup [.str (Sc.mv up ns).word, .lst (ns.map D.str)] := by cases up <;> rfl
def stW (us : List Win) : Sc → List Win
  | .pl n r => plW us n r
  | _ => us
def aftW (us : List Win) (ps : List Sc) : List Win := ps.foldl stW us
def Plain (nm : List Str) (ps : List Sc) : Prop := ∀ s ∈ ps, s.isRp = false ∧ Rt nm s
theorem DkOk.st {us : List Win} (h : DkOk us) {s : Sc} (hp : s.isRp = false ∧ Rt (nms us) s) : DkOk (stW us s) := by
  obtain ⟨h1, h2⟩ := hp
  cases h2 with
  | mv _ => exact h
  | pl hn g => exact h.pl g hn
  | rp _ _ _ _ => cases h1
end DL
namespace DL
open PySem PySem.Spec PyProof.Rows L2 RK
structure WNm (ws : List Win) : Prop where
  nd : (nms ws).Nodup
  nm : ∀ w ∈ ws, NameOk w.1
  l1 : 1 ≤ ws.length
  l2 : ws.length ≤ 24
end DL
namespace DL
open PySem PySem.Spec PyProof.Rows L2 RK
def prt (s : Sc) (a b : Str) : Bool := match s with
  | .mv _ ns => decide (a ∈ ns) != decide (b ∈ ns)
  | _ => false
def pov (s : Sc) (a : Str) : Bool := match s with
  | .mv up ns => up == decide (a ∈ ns)
  | _ => false
def lastP (ps : List Sc) (a b : Str) : Option Sc := (ps.filter fun s => prt s a b).getLast?
def wordP (ps : List Sc) (a b : Str) : Str := match lastP ps a b with
  | none => "left"
  | some s => if pov s a = true then "over" else "under"
theorem plain_fl {nm : List Str} : ∀ {n : Nat} {s : Sc}, Dp n s → Rt nm s → Plain nm s.fl := by
  intro n s h
  induction h with
  | mv => intro rt t ht; rw [Sc.fl, List.mem_singleton] at ht; rw [ht]; exact ⟨rfl, rt⟩
  | pl => intro rt t ht; rw [Sc.fl, List.mem_singleton] at ht; rw [ht]; exact ⟨rfl, rt⟩
  | rp _ ih =>
    rename_i c ss _
    intro rt t ht
    rw [Sc.fl] at ht
    split at ht
    · cases ht
    · cases rt with
      | rp _ _ _ h4 =>
        have key : ∀ ts : List Sc, (∀ s ∈ ts, s ∈ ss) → t ∈ Sc.fls ts → t.isRp = false ∧ Rt nm t := by
          intro ts
          induction ts with
          | nil => intro _ h; rw [Sc.fls] at h; cases h
          | cons s ts ih2 =>
            intro hs h
            rw [Sc.fls] at h
            rcases List.mem_append.mp h with h | h
            · exact ih s (hs s List.mem_cons_self) (h4 s (hs s List.mem_cons_self)) t h
            · exact ih2 (fun x hx => hs x (List.mem_cons_of_mem _ hx)) h
        exact key ss (fun _ h => h) ht
theorem plain_fls {nm : List Str} {n : Nat} : ∀ {ss : List Sc}, (∀ s ∈ ss, Rt nm s ∧ Dp n s) → Plain nm (Sc.fls ss)
  | [], _ => fun t ht => by rw [Sc.fls] at ht; cases ht
  | s :: ss, h => fun t ht => by
    rw [Sc.fls] at ht
    rcases List.mem_append.mp ht with ht | ht
    · exact plain_fl (h s List.mem_cons_self).2 (h s List.mem_cons_self).1 t ht
    · exact plain_fls (fun x hx => h x (List.mem_cons_of_mem _ hx)) t ht
def RtS (nm : List Str) (ss : List Sc) : Prop := (∀ s ∈ ss, Rt nm s ∧ Dp 5 s) ∧ Sc.szs ss ≤ 400
theorem RtS.plain {nm : List Str} {ss : List Sc} (h : RtS nm ss) : Plain nm (Sc.fls ss) := plain_fls h.1
def effP (us : List Win) (ps : List Sc) : List SP := prs (ovl (aftW us ps)) (nms us)
end DL
namespace DL
open PySem PySem.Spec PyProof.Rows L2 RK
instance decR : DecidableEq R := fun a b => decidable_of_iff (a.l = b.l ∧ a.t = b.t ∧ a.r = b.r ∧ a.b = b.b) ⟨fun ⟨h1, h2, h3, h4⟩ => by cases a; cases b; cases h1; cases h2; cases h3; cases h4; rfl, fun h => by rw [h]; exact ⟨rfl, rfl, rfl, rfl⟩⟩
theorem dp_plain {n : Nat} {s : Sc} (h : s.isRp = false) : Dp n s := by
  cases s with
  | mv => exact .mv
  | pl => exact .pl
  | rp => cases h
end DL
namespace DL
open PySem PySem.Spec PyProof.Rows L2 RK
def Alk (us : List Win) (a b : List Sc) : Prop := aftW us a = aftW us b ∧ ∀ p ∈ effP us a, wordP a p.1 p.2 = wordP b p.1 p.2
theorem Alk.refl (us : List Win) (a : List Sc) : Alk us a a := ⟨rfl, fun _ _ => rfl⟩
theorem Alk.trans {us : List Win} {a b c : List Sc} (h : Alk us a b) (g : Alk us b c) : Alk us a c := ⟨h.1.trans g.1, fun p hp => (h.2 p hp).trans (g.2 p (by unfold effP at hp ⊢; rw [← h.1]; exact hp))⟩
end DL
namespace DL
open PySem PySem.Spec PyProof.Rows L2 RK
end DL
namespace DL
open PySem PySem.Spec PyProof.Rows L2 RK
end DL
namespace DL
open PySem PySem.Spec PyProof.Rows L2 RK
theorem cut_to (xs : List D) (k : Nat) : cutD xs none (some ((k : Nat) : Int)) = xs.take k := by
  unfold cutD
  rw [HT.sIx_nat, HT.sIx_none, List.drop_zero, Nat.sub_zero]
  rcases Nat.le_total k xs.length with h | h
  · rw [Nat.min_eq_left h]
  · rw [Nat.min_eq_right h, List.take_of_length_le (Nat.le_refl _), List.take_of_length_le h]
def sp_some : DSp := fun ds P => ∃ zs : List Str, ds = [.bag, .lst (zs.map D.str)] ∧ zs ≠ [] ∧ zs.Nodup ∧ zs.length ≤ 1000 ∧ ∀ ys : List Str, RtM zs ys → P (.lst (ys.map D.str))
def d_some : TDS := (sSeq (sSet 2 (dCall sp_mixed (aCons (dV 0) (aCons (dV 1) aNil))))
  (sRet (dCut cutL (dV 2) oNone (oSome (dO2 bAdd (dC (.int 1)) (dCall sp_pull (aCons (dV 0) (aCons (dCa lenD (aCons (dV 2) aNil)) aNil))))))))
theorem rd_some {ds : List D} {P : D → Prop} (h : sp_some ds P) : d_some (fin true P) (st 3 ds) := by
  obtain ⟨zs, rfl, ne, nd, hl, q⟩ := h
  simp only [d_some, dC, dV, dO2, aNil, aCons, dCut, oNone, oSome, dCa, dCall, sSeq, sRet, sSet, fin, st, List.map_cons, List.map_nil, List.length_cons, List.length_nil, List.replicate_succ, List.replicate_zero, List.cons_append, List.nil_append, List.getElem?_cons_zero, List.getElem?_cons_succ, List.set_cons_zero, List.set_cons_succ, Nat.reduceSub, Nat.reduceAdd]
  refine ⟨_, .inl rfl, by rw [List.length_map]; omega, fun ys hp => ?_⟩
  obtain ⟨us, rfl, pu⟩ := perm_str hp
  have lu := pu.length_eq
  have l0 : 0 < zs.length := List.length_pos_iff.mpr ne
  have l1 : lenD [.lst (us.map D.str)] = some (.int us.length) := len_strs (.inl rfl)
  simp only [l1, ob_some]
  refine ⟨_, rfl, by omega, by omega, fun r r0 r1 => ?_⟩
  have er : (1 : Int) + r = ((1 + r.toNat : Nat) : Int) := by omega
  simp only [bAdd_i, ob_some, er, cutL, cut_to]
  rw [← List.map_take]
  refine q _ ⟨?_, ?_, fun n hn => pu.mem_iff.mp (List.mem_of_mem_take hn), ?_⟩
  · intro h
    have := congrArg List.length h
    rw [List.length_take, List.length_nil] at this
    omega
  · exact (List.take_sublist _ _).nodup (pu.nodup_iff.mpr nd)
  · rw [List.length_take]
    omega
theorem ln_some {ds : List D} {P : D → Prop} (h : sp_some ds P) : ds.length = 2 := by obtain ⟨_, rfl, _⟩ := h; rfl
def sp_moving : DSp := fun ds P => ∃ zs : List Str, ds = [.bag, .lst (zs.map D.str)] ∧ zs ≠ [] ∧ zs.Nodup ∧ zs.length ≤ 1000 ∧ ∀ up ys, RtM zs ys → P (Sc.mv up ys).d
def d_moving : TDS := (sSeq (sSet 2 (dIf (dT (dO2 bGt (dCall sp_pull (aCons (dV 0) (aCons (dC (.int 3)) aNil))) (dC (.int 0)))) (dCall sp_some (aCons (dV 0) (aCons (dV 1) aNil))) (dLst (aCons (dCall sp_of (aCons (dV 0) (aCons (dV 1) aNil))) aNil))))
  (sRet (dTup (aCons (dCall sp_of (aCons (dV 0) (aCons (dLst (aCons (dC (.str "raise")) (aCons (dC (.str "lower")) aNil))) aNil))) (aCons (dV 2) aNil)))))
theorem rd_moving {ds : List D} {P : D → Prop} (h : sp_moving ds P) : d_moving (fin true P) (st 3 ds) := by
  obtain ⟨zs, rfl, ne, nd, hl, q⟩ := h
  have l0 : 0 < zs.length := List.length_pos_iff.mpr ne
  have tl : ∀ ys, RtM zs ys → (sRet (dTup (aCons (dCall sp_of (aCons (dV 0) (aCons (dLst (aCons (dC (.str "raise")) (aCons (dC (.str "lower")) aNil))) aNil))) (aCons (dV 2) aNil)))) (fin true P) [.fz .bag, .fz (.lst (zs.map D.str)), .fz (.lst (ys.map D.str))] := fun ys hy => by
    simp only [dC, dV, aNil, aCons, dTup, dLst, dCall, sRet, fin, List.length_cons, List.length_nil, List.getElem?_cons_zero, List.getElem?_cons_succ, Nat.reduceAdd]
    refine ⟨by decide, .inl ⟨_, .inl rfl, by simp, by simp, fun x hx => ?_⟩⟩
    simp only [List.mem_cons, List.not_mem_nil, or_false] at hx
    rcases hx with rfl | rfl
    · exact ⟨by decide, q true ys hy⟩
    · exact ⟨by decide, q false ys hy⟩
  unfold d_moving
  generalize (sRet (dTup (aCons (dCall sp_of (aCons (dV 0) (aCons (dLst (aCons (dC (.str "raise")) (aCons (dC (.str "lower")) aNil))) aNil))) (aCons (dV 2) aNil)))) = R at tl ⊢
  simp only [dC, dV, dO2, dT, dIf, aNil, aCons, dLst, dCall, sSeq, sSet, fin, st, List.map_cons, List.map_nil, List.length_cons, List.length_nil, List.replicate_succ, List.replicate_zero, List.cons_append, List.nil_append, List.getElem?_cons_zero, List.getElem?_cons_succ, List.set_cons_zero, List.set_cons_succ, Nat.reduceSub, Nat.reduceAdd]
  refine ⟨_, rfl, by decide, by decide, fun r r0 r1 => ?_⟩
  have eg : bGt (.int r) (.int 0) = some (.bl (decide (r > 0))) := rfl
  simp only [eg, ob_some]
  by_cases h : r > 0
  · rw [decide_eq_true h]
    simp only [if_true]
    exact ⟨zs, rfl, ne, nd, hl, fun ys hy => tl ys hy⟩
  · rw [decide_eq_false h]
    simp only [Bool.false_eq_true, if_false]
    refine .inl ⟨_, .inl rfl, by rw [List.length_map]; omega, by rw [List.length_map]; omega, fun x hx => ⟨by decide, ?_⟩⟩
    obtain ⟨z, hz, rfl⟩ := List.mem_map.mp hx
    exact tl [z] ⟨by simp, by simp, fun n hn => by rw [List.mem_singleton.mp hn]; exact hz, by simp⟩
theorem ln_moving {ds : List D} {P : D → Prop} (h : sp_moving ds P) : ds.length = 2 := by obtain ⟨_, rfl, _⟩ := h; rfl
def sp_step : DSp := fun ds P => ∃ zs : List Str, ds = [.bag, .lst (zs.map D.str)] ∧ zs ≠ [] ∧ zs.Nodup ∧ zs.length ≤ 1000 ∧ ∀ s : Sc, s.isRp = false → Rt zs s → P s.d
def d_step : TDS := (sSeq (sIf (dT (dO2 (bEqN false) (dCall sp_pull (aCons (dV 0) (aCons (dC (.int 5)) aNil))) (dC (.int 0)))) (sRet (dTup (aCons (dC (.str "place")) (aCons (dCall sp_of (aCons (dV 0) (aCons (dV 1) aNil))) (aCons (dCall sp_rectangle (aCons (dV 0) (aCons (dC (.int 1)) aNil))) aNil))))) sNil)
  (sRet (dCall sp_moving (aCons (dV 0) (aCons (dV 1) aNil)))))
theorem rd_step {ds : List D} {P : D → Prop} (h : sp_step ds P) : d_step (fin true P) (st 2 ds) := by
  obtain ⟨zs, rfl, ne, nd, hl, q⟩ := h
  have l0 : 0 < zs.length := List.length_pos_iff.mpr ne
  simp only [d_step, dC, dV, dO2, dT, aNil, aCons, dTup, dCall, sNil, sSeq, sIf, sRet, fin, st, List.map_cons, List.map_nil, List.length_cons, List.length_nil, List.replicate_zero, List.append_nil, List.getElem?_cons_zero, List.getElem?_cons_succ, Nat.reduceSub, Nat.reduceAdd]
  refine ⟨_, rfl, by decide, by decide, fun r r0 r1 => ?_⟩
  simp only [bEq_i, ob_some]
  by_cases h : r = 0
  · rw [decide_eq_true h]
    simp only [if_true]
    refine .inl ⟨_, .inl rfl, by rw [List.length_map]; omega, by rw [List.length_map]; omega, fun x hx => ?_⟩
    obtain ⟨z, hz, rfl⟩ := List.mem_map.mp hx
    refine ⟨1, rfl, by decide, by decide, fun x y x2 y2 h1 h2 h3 h4 h5 h6 h7 h8 => ⟨by decide, ?_⟩⟩
    exact q (.pl z ⟨1 * x, 1 * y, 1 * x2, 1 * y2⟩) rfl (.pl hz (sm_scaled (c := 1) (by decide) (by decide) h1 h2 h3 h4 h5 h6 h7 h8).1)
  · rw [decide_eq_false h]
    simp only [Bool.false_eq_true, if_false]
    exact ⟨zs, rfl, ne, nd, hl, fun up ys hy => q _ rfl (.mv hy)⟩
theorem ln_step {ds : List D} {P : D → Prop} (h : sp_step ds P) : ds.length = 2 := by obtain ⟨_, rfl, _⟩ := h; rfl
end DL
namespace DL
open PySem PySem.Spec PyProof.Rows L2 RK
theorem put_len (kds : List (Key × D)) (k : Key) (y : D) : (putD kds k y).length ≤ kds.length + 1 := by
  unfold putD
  by_cases h : (kds.any fun kd => decide (kd.1 = k)) = true
  · rw [if_pos h, List.length_map]; omega
  · rw [if_neg h]; simp
end DL
namespace DL
open PySem PySem.Spec PyProof.Rows L2 RK
def Lk : List Str → List SP
  | a :: b :: r => (a, b) :: Lk (b :: r)
  | _ => []
def cntW (os zs : List Str) : Nat := ((Lk zs).filter fun p => decide (ixS os p.2 < ixS os p.1)).length
def tlD (os : List Str) (ps : List SP) (zs : List Str) : D := if 2 ≤ zs.length ∧ ((Lk zs).all fun p => decide (p ∈ ps)) = true then .int ((cntW os zs : Nat) : Int) else .non
end DL
namespace DL
open PySem PySem.Spec PyProof.Rows L2 RK
end DL
namespace DL
open PySem PySem.Spec PyProof.Rows L2 RK
def wf : Nat → D → Bool
  | _, .non => true
  | _, .int _ => true
  | _, .str x => PyData.strOk x
  | n + 1, .lst xs => decide (xs.length ≤ 1000) && xs.all (wf n)
  | n + 1, .tup xs => decide (xs.length ≤ 1000) && (xs.all (wf n) && xs.head?.all D.leaf)
  | _, _ => false
theorem wf_lst {n : Nat} {xs : List D} (h : wf (n + 1) (.lst xs) = true) : xs.length ≤ 1000 ∧ ∀ x ∈ xs, wf n x = true := by
  unfold wf at h
  rw [Bool.and_eq_true, List.all_eq_true, decide_eq_true_iff] at h
  exact h
theorem wf_tup {n : Nat} {xs : List D} (h : wf (n + 1) (.tup xs) = true) : xs.length ≤ 1000 ∧ (∀ x ∈ xs, wf n x = true) ∧ xs.head?.all D.leaf = true := by
  unfold wf at h
  rw [Bool.and_eq_true, Bool.and_eq_true, List.all_eq_true, decide_eq_true_iff] at h
  exact h
def tupB : D → Bool
  | .tup _ => true | _ => false
def lstB : D → Bool
  | .lst _ => true | .tup _ => true | _ => false
def itL : D → List D
  | .lst xs => xs | .tup xs => xs | _ => []
def strIn (ws : List Str) : D → Bool
  | .str z => decide (z ∈ ws) | _ => false
def begB (ws : List Str) : D → Bool
  | .tup (y :: _) => strIn ws y | _ => false
abbrev repB : D → Bool := begB ["repeat"]
def neT : D → Bool
  | .tup (_ :: _) => true | _ => false
def hasB : D → Bool
  | .tup [_, _, z] => lstB z && (itL z).all neT | _ => false
def thd : D → List D
  | .tup [_, _, z] => itL z | _ => []
def innB (x : D) : List D := if hasB x = true then thd x else []
theorem len_tup (xs : List D) : lenD [.tup xs] = some (.int (xs.length : Nat)) := rfl
def IsWs (w : D) (ws : List Str) : Prop := w = .ktp (ws.map D.str) ∨ w = .tup (ws.map D.str) ∨ w = .lst (ws.map D.str)
theorem in_leaf {w : D} {ws : List Str} (hw : IsWs w ws) {y : D} (hl : y.leaf = true) (hb : ∀ b, y ≠ .bl b) : bIn false y w = some (.bl (strIn ws y)) := by
  have key : inFlat false y w = some (.bl (strIn ws y)) := by
    have it : itemsD w = some (ws.map D.str) := by rcases hw with rfl | rfl | rfl <;> rfl
    have lf : (ws.map D.str).all D.leaf = true := by
      rw [List.all_eq_true]
      intro d hd
      obtain ⟨z, _, rfl⟩ := List.mem_map.mp hd
      rfl
    unfold inFlat
    rw [it]
    show (if (y.leaf = true ∧ (ws.map D.str).all D.leaf = true) then some (D.bl (false ^^ ((ws.map D.str).any fun x => eqF x y))) else none) = _
    rw [if_pos ⟨hl, lf⟩, Bool.false_xor, List.any_map]
    congr 2
    cases y with
    | str z =>
      show (ws.any fun x => decide (x = z)) = decide (z ∈ ws)
      rw [Bool.eq_iff_iff, List.any_eq_true, decide_eq_true_iff]
      exact ⟨fun ⟨x, hx, e⟩ => of_decide_eq_true e ▸ hx, fun h => ⟨z, h, decide_eq_true rfl⟩⟩
    | bl b => exact absurd rfl (hb b)
    | _ =>
      first
      | (show List.any ws _ = false; rw [Bool.eq_false_iff]; intro z; obtain ⟨x, _, e⟩ := List.any_eq_true.mp z; cases e)
      | cases hl
  unfold bIn
  rw [key]
  rfl
theorem gt0 (n : Nat) : bGt (.int (n : Nat)) (.int 0) = some (.bl (decide (0 < n))) := by
  show some (D.bl (decide ((n : Int) > 0))) = _
  rw [decide_eq_decide.mpr (by omega : (n : Int) > 0 ↔ 0 < n)]
def sp_is_repeatD : DSp := fun ds P => ∃ (n : Nat) (x : D), ds = [x] ∧ wf n x = true ∧ P (.bl (repB x))
theorem wf_it {n : Nat} {z : D} (h : wf (n + 1) z = true) : (itL z).length ≤ 1000 ∧ ∀ x ∈ itL z, wf n x = true := by
  cases z with
  | lst xs => exact wf_lst h
  | tup xs => exact ⟨(wf_tup h).1, (wf_tup h).2.1⟩
  | _ => exact ⟨Nat.zero_le _, fun x hx => by cases hx⟩
theorem rep_tup {ws : List Str} {x : D} (h : begB ws x = true) : ∃ y r, x = .tup (y :: r) := by
  cases x with
  | tup xs =>
    cases xs with
    | nil => cases h
    | cons y r => exact ⟨y, r, rfl⟩
  | _ => cases h
def sp_inner_stepsD : DSp := fun ds P => ∃ (n : Nat) (xs : List D), ds = [.tup xs] ∧ wf (n + 2) (.tup xs) = true ∧ P (.lst (innB (.tup xs)))
theorem has3 {x : D} (h : hasB x = true) : ∃ a b z, x = .tup [a, b, z] ∧ lstB z = true ∧ (itL z).all neT = true := by
  unfold hasB at h
  split at h
  · rw [Bool.and_eq_true] at h
    exact ⟨_, _, _, rfl, h⟩
  · cases h
end DL
namespace DL
open PySem PySem.Spec PyProof.Rows L2 RK
theorem wf_up : ∀ {n : Nat} {x : D}, wf n x = true → wf (n + 1) x = true
  | n, .non, _ => by cases n <;> rfl
  | n, .int _, _ => by cases n <;> rfl
  | 0, .str x, h => h
  | n + 1, .str x, h => h
  | n + 1, .lst xs, h => by
    obtain ⟨h1, h2⟩ := wf_lst h
    unfold wf
    rw [Bool.and_eq_true, List.all_eq_true, decide_eq_true_iff]
    exact ⟨h1, fun x hx => wf_up (h2 x hx)⟩
  | n + 1, .tup xs, h => by
    obtain ⟨h1, h2, h3⟩ := wf_tup h
    unfold wf
    rw [Bool.and_eq_true, Bool.and_eq_true, List.all_eq_true, decide_eq_true_iff]
    exact ⟨h1, fun x hx => wf_up (h2 x hx), h3⟩
  | 0, .lst _, h => by cases h
  | 0, .tup _, h => by cases h
  | n, .bl _, h => by cases n <;> cases h
  | n, .ktp _, h => by cases n <;> cases h
  | n, .dic _, h => by cases n <;> cases h
  | n, .dct _, h => by cases n <;> cases h
  | n, .obj _ _, h => by cases n <;> cases h
  | n, .bag, h => by cases n <;> cases h
  | n, .fn _ _, h => by cases n <;> cases h
  | n, .tr _ _, h => by cases n <;> cases h
theorem comp_filterD {g : TDG} {tt : TDT} {te : TDE} {P : D → Prop} {env : De} (p : D → Bool) (l : List D) (h : ∀ a ∈ l, ∀ (Q : D → Prop) (Z : Prop), (p a = true → Q a) → (p a = false → Z) → g a env fun env' => tt env' fun b => if b = true then te env' Q else Z) (hl : l.length ≤ 1000000) (q : P (.lst (l.filter p))) : dComp g tt te P env l [] := by
  have := comp_filter (g := g) (tt := tt) (te := te) (P := P) (env := env) (fun x => x) (fun x => x) p l [] h (by simpa using hl) (by rw [List.nil_append, List.map_id']; exact q)
  rwa [List.map_id'] at this
theorem comp2_mapD {g g1 : TDG} {tt tt1 : TDT} {it1 : TDI} {te : TDE} {vs1 : List Nat} {P : D → Prop} {env : De} (f : D → List D) (S : D → De → Prop) (l : List D)
    (h1 : ∀ a ∈ l, ∀ (K : De → List D → Prop) (Z : Prop), (∀ env', S a env' → K env' (f a)) → g a env fun env' => tt env' fun b => if b = true then it1 env' (K env') else Z)
    (h2 : ∀ a ∈ l, ∀ env', S a env' → ∀ b ∈ f a, ∀ (Q : D → Prop) (Z : Prop), Q b → g1 b (wipeE env' vs1) fun e2 => tt1 e2 fun c => if c = true then te e2 Q else Z) (hl : (l.flatMap f).length ≤ 1000000) (q : P (.lst (l.flatMap f))) : dComp2 g tt it1 g1 tt1 te vs1 P env l [] := by
  have := comp2_map (g := g) (g1 := g1) (tt := tt) (tt1 := tt1) (it1 := it1) (te := te) (vs1 := vs1) (P := P) (env := env) (fun x => x) (fun x => x) (fun x => x) f S l [] (fun a ha K Z hK => h1 a ha K Z fun env' s => by have := hK env' s; rwa [List.map_id'] at this) h2 (by simpa using hl) (by rw [List.nil_append, List.map_id']; exact q)
  rwa [List.map_id'] at this
def lvs : Nat → List D → List (List D)
  | 0, ss => [ss]
  | n + 1, ss => match ss.filter repB with
    | [] => [ss]
    | r :: rs => ss :: lvs n ((r :: rs).flatMap innB)
def IsSq (d : D) (ss : List D) : Prop := d = .lst ss ∨ d = .tup ss
theorem seq_sq {d : D} {ss : List D} (h : IsSq d ss) {P : List D → Prop} (q : P ss) : ob (lstD d) P ∨ ob (tupD d) P ∨ ob (sgnD d) P := by
  rcases h with rfl | rfl
  · exact .inl q
  · exact .inr (.inl q)
theorem lvs_len : ∀ (n : Nat) (ss : List D), (lvs n ss).length ≤ n + 1
  | 0, ss => Nat.le_refl _
  | n + 1, ss => by
    unfold lvs
    split
    · simp
    · have := lvs_len n
      simp only [List.length_cons]
      exact Nat.succ_le_succ (this _)
theorem wf_inn {m : Nat} {x : D} (h : wf (m + 1) x = true) : ∀ y ∈ innB x, wf m y = true := fun y hy => by
  unfold innB at hy
  split at hy
  · rename_i hh
    obtain ⟨a, b, z, rfl, hz, _⟩ := has3 hh
    have hz2 := (wf_tup h).2.1 z (by simp)
    have hy : y ∈ itL z := hy
    cases m with
    | zero => cases z <;> first | (cases hz2; done) | (cases hz; done)
    | succ k =>
      exact wf_up ((wf_it hz2).2 y hy)
  · cases hy
theorem wf_nxt {m : Nat} {cur : List D} (h : ∀ s ∈ cur, wf (m + 1) s = true) : ∀ s ∈ (cur.filter repB).flatMap innB, wf m s = true := fun s hs => by
  obtain ⟨x, hx, hs⟩ := List.mem_flatMap.mp hs
  exact wf_inn (h x (List.mem_filter.mp hx).1) s hs
theorem wf_rep0 {x : D} (h : wf 0 x = true) : repB x = false := by cases x <;> first | rfl | (cases h; done)
def sp_levelsD : DSp := fun ds P => ∃ d ss n, ds = [d] ∧ IsSq d ss ∧ (∀ s ∈ ss, wf n s = true) ∧ n ≤ 50 ∧ (∀ l ∈ lvs n ss, l.length ≤ 100000) ∧ P (.lst ((lvs n ss).map D.lst))
def d_levelsD : TDS := (sSeq (sSetO 1 (dLst (aCons (dCa listD (aCons (dV 0) aNil)) aNil)))
  (sWhile (dT (dC (.bl true))) (sSeq (sSet 2 (dLc (iSeq (dO2 bIx (dB 1) (dNeg (dC (.int 1))))) (gNm 3) (dT (dCall sp_is_repeatD (aCons (dV 3) aNil))) (dV 3) [3]))
  (sSeq (sIf (dNotT (dTru (dV 2))) (sRetO 1) sNil)
  (sApp 1 (dLc2 (iSeq (dV 2)) (gNm 3) tYesD (iSeq (dCall sp_inner_stepsD (aCons (dV 3) aNil))) (gNm 4) tYesD (dV 4) [3, 4] [4]))))))
theorem ln_levelsD {ds : List D} {P : D → Prop} (h : sp_levelsD ds P) : ds.length = 1 := by obtain ⟨_, _, _, rfl, _⟩ := h; rfl
theorem rd_levelsD {ds : List D} {P : D → Prop} (h : sp_levelsD ds P) : d_levelsD (fin true P) (st 5 ds) := by
  obtain ⟨d, ss, n, rfl, hd, dp, hn, hz, q⟩ := h
  have l1 : listD [d] = some (.lst ss) := by rcases hd with rfl | rfl <;> rfl
  simp only [d_levelsD, dC, dV, dB, dO2, ob_some, dT, dAndT, dOrT, dNotT, dIf, dAndV, dOrV, dNotV, dChain, aNil, aCons, dTup, dLst, dCut, oNone, oSome, dRev, dNeg, dTru, dCa, dIs, dIsA, dCall, dCallK, sNil, sSeq, sNever, sBrk, sCont, sIf, sRet, sRetO, sRetE, sSet, sSetO, sDrop, sPar, sPar3, kn, enOf, owD, sAsg, gNm, gsNil, gsCons, gTp, sApp, sIns, sExt, sClr, sRev, sPut, sFrz, owAt, fin, st, iRng, iRngB, iSeq, lstD, tupD, sFor, dLc, dDc, wipeE, tYesD, dIndex, dSort, dDictZip, dMeth, dFld, dMk, List.map_cons, List.map_nil, List.length_cons, List.length_nil, List.replicate_succ, List.replicate_zero, List.cons_append, List.nil_append, List.append_nil, List.getElem?_cons_zero, List.getElem?_cons_succ, List.set_cons_zero, List.set_cons_succ, Option.bind_some, Option.map_some, Nat.reduceSub, Nat.reduceAdd, kwP, List.getD_cons_zero, List.getD_cons_succ, sRaise0, sRaiseI, dCallX, l1, sWhile]
  refine ⟨by decide, ?_⟩
  refine ⟨fun m env => ∃ (pre : List (List D)) (cur : List D) (e2 e3 e4 : En), env = [.fz d, .ow ((pre ++ [cur]).map D.lst), e2, e3, e4] ∧ pre ++ lvs m cur = lvs n ss ∧ (∀ s ∈ cur, wf m s = true) ∧ pre.length + m ≤ 1000, ⟨n, [], ss, _, _, _, rfl, rfl, dp, by simp; omega⟩, ?_⟩
  rintro m env ⟨pre, cur, e2, e3, e4, rfl, he, dc, hp⟩
  have xl : bIx (.lst ((pre ++ [cur]).map D.lst)) (.int (-1)) = some (.lst cur) := by
    show (atI ((pre ++ [cur]).map D.lst) (-1)).or _ = _
    rw [List.map_append, List.map_cons, List.map_nil, atI_last]
    rfl
  have lc : cur.length ≤ 100000 := by
    refine hz cur ?_
    rw [← he]
    refine List.mem_append_right _ ?_
    cases m with
    | zero => exact List.mem_cons_self
    | succ m =>
      unfold lvs
      split <;> exact List.mem_cons_self
  simp only [dC, dV, dB, dO2, ob_some, dT, dAndT, dOrT, dNotT, dIf, dAndV, dOrV, dNotV, dChain, aNil, aCons, dTup, dLst, dCut, oNone, oSome, dRev, dNeg, dTru, dCa, dIs, dIsA, dCall, dCallK, sNil, sSeq, sNever, sBrk, sCont, sIf, sRet, sRetO, sRetE, sSet, sSetO, sDrop, sPar, sPar3, kn, enOf, owD, sAsg, gNm, gsNil, gsCons, gTp, sApp, sIns, sExt, sClr, sRev, sPut, sFrz, owAt, fin, st, iRng, iRngB, iSeq, lstD, tupD, sFor, dLc, dDc, wipeE, tYesD, dIndex, dSort, dDictZip, dMeth, dFld, dMk, List.map_cons, List.map_nil, List.length_cons, List.length_nil, List.replicate_succ, List.replicate_zero, List.cons_append, List.nil_append, List.append_nil, List.getElem?_cons_zero, List.getElem?_cons_succ, List.set_cons_zero, List.set_cons_succ, Option.bind_some, Option.map_some, Nat.reduceSub, Nat.reduceAdd, kwP, List.getD_cons_zero, List.getD_cons_succ, sRaise0, sRaiseI, dCallX, xl, if_true]
  refine .inl (comp_filterD repB cur (fun s hs Q Z h1 h2 => ?_) (by omega) ?_)
  · simp only [dC, dV, dB, dO2, ob_some, dT, dAndT, dOrT, dNotT, dIf, dAndV, dOrV, dNotV, dChain, aNil, aCons, dTup, dLst, dCut, oNone, oSome, dRev, dNeg, dTru, dCa, dIs, dIsA, dCall, dCallK, sNil, sSeq, sNever, sBrk, sCont, sIf, sRet, sRetO, sRetE, sSet, sSetO, sDrop, sPar, sPar3, kn, enOf, owD, sAsg, gNm, gsNil, gsCons, gTp, sApp, sIns, sExt, sClr, sRev, sPut, sFrz, owAt, fin, st, iRng, iRngB, iSeq, lstD, tupD, sFor, dLc, dDc, wipeE, tYesD, dIndex, dSort, dDictZip, dMeth, dFld, dMk, List.map_cons, List.map_nil, List.length_cons, List.length_nil, List.replicate_succ, List.replicate_zero, List.cons_append, List.nil_append, List.append_nil, List.getElem?_cons_zero, List.getElem?_cons_succ, List.set_cons_zero, List.set_cons_succ, Option.bind_some, Option.map_some, Nat.reduceSub, Nat.reduceAdd, kwP, List.getD_cons_zero, List.getD_cons_succ, sRaise0, sRaiseI, dCallX]
    refine ⟨m, s, rfl, dc s hs, ?_⟩
    cases hr : repB s with
    | true => exact h1 hr
    | false => exact h2 hr
  · cases hf : cur.filter repB with
    | nil =>
      have t0 : truD (.lst ([] : List D)) = some false := rfl
      simp only [t0, ob_some, Bool.not_false, if_true]
      have e : lvs m cur = [cur] := by
        cases m with
        | zero => rfl
        | succ m => rw [lvs, hf]
      rw [e] at he
      rw [he]
      exact q
    | cons r rs =>
      have t1 : truD (.lst (r :: rs)) = some true := rfl
      simp only [t1, ob_some, Bool.not_true, Bool.false_eq_true, if_false]
      have hr : r ∈ cur ∧ repB r = true := List.mem_filter.mp (by rw [hf]; exact List.mem_cons_self)
      obtain ⟨m, rfl⟩ : ∃ k, m = k + 1 := by
        cases m with
        | succ k => exact ⟨k, rfl⟩
        | zero =>
          have := wf_rep0 (dc r hr.1)
          rw [this] at hr
          exact absurd hr.2 Bool.false_ne_true
      have el : lvs (m + 1) cur = cur :: lvs m ((cur.filter repB).flatMap innB) := by rw [lvs, hf]
      have lx : ((cur.filter repB).flatMap innB).length ≤ 100000 := by
        refine hz _ ?_
        rw [← he, el]
        refine List.mem_append_right _ (List.mem_cons_of_mem _ ?_)
        cases m with
        | zero => exact List.mem_cons_self
        | succ m =>
          unfold lvs
          split <;> exact List.mem_cons_self
      refine .inl ?_
      rw [← hf]
      refine comp2_mapD innB (fun s env' => env' = [.fz d, .ow ((pre ++ [cur]).map D.lst), .fz (.lst (cur.filter repB)), .fz s, .no]) (cur.filter repB) (fun s hs K Z hK => ?_) (fun s hs env' he' t ht Q Z hQ => ?_) ?_ ?_
      · obtain ⟨hs1, hs2⟩ := List.mem_filter.mp hs
        obtain ⟨y, r', rfl⟩ := rep_tup hs2
        simp only [dC, dV, dB, dO2, ob_some, dT, dAndT, dOrT, dNotT, dIf, dAndV, dOrV, dNotV, dChain, aNil, aCons, dTup, dLst, dCut, oNone, oSome, dRev, dNeg, dTru, dCa, dIs, dIsA, dCall, dCallK, sNil, sSeq, sNever, sBrk, sCont, sIf, sRet, sRetO, sRetE, sSet, sSetO, sDrop, sPar, sPar3, kn, enOf, owD, sAsg, gNm, gsNil, gsCons, gTp, sApp, sIns, sExt, sClr, sRev, sPut, sFrz, owAt, fin, st, iRng, iRngB, iSeq, lstD, tupD, sFor, dLc, dDc, wipeE, tYesD, dIndex, dSort, dDictZip, dMeth, dFld, dMk, List.map_cons, List.map_nil, List.length_cons, List.length_nil, List.replicate_succ, List.replicate_zero, List.cons_append, List.nil_append, List.append_nil, List.getElem?_cons_zero, List.getElem?_cons_succ, List.set_cons_zero, List.set_cons_succ, Option.bind_some, Option.map_some, Nat.reduceSub, Nat.reduceAdd, kwP, List.getD_cons_zero, List.getD_cons_succ, sRaise0, sRaiseI, dCallX, wipeE, if_true]
        refine .inl ⟨m, y :: r', rfl, wf_up (dc _ hs1), ?_⟩
        exact hK _ rfl
      · subst he'
        simp only [dC, dV, dB, dO2, ob_some, dT, dAndT, dOrT, dNotT, dIf, dAndV, dOrV, dNotV, dChain, aNil, aCons, dTup, dLst, dCut, oNone, oSome, dRev, dNeg, dTru, dCa, dIs, dIsA, dCall, dCallK, sNil, sSeq, sNever, sBrk, sCont, sIf, sRet, sRetO, sRetE, sSet, sSetO, sDrop, sPar, sPar3, kn, enOf, owD, sAsg, gNm, gsNil, gsCons, gTp, sApp, sIns, sExt, sClr, sRev, sPut, sFrz, owAt, fin, st, iRng, iRngB, iSeq, lstD, tupD, sFor, dLc, dDc, wipeE, tYesD, dIndex, dSort, dDictZip, dMeth, dFld, dMk, List.map_cons, List.map_nil, List.length_cons, List.length_nil, List.replicate_succ, List.replicate_zero, List.cons_append, List.nil_append, List.append_nil, List.getElem?_cons_zero, List.getElem?_cons_succ, List.set_cons_zero, List.set_cons_succ, Option.bind_some, Option.map_some, Nat.reduceSub, Nat.reduceAdd, kwP, List.getD_cons_zero, List.getD_cons_succ, sRaise0, sRaiseI, dCallX, wipeE, if_true]
        exact hQ
      · omega
      · refine ⟨by rw [List.length_map, List.length_append]; exact szM (by simp; omega), m, by omega, pre ++ [cur], (cur.filter repB).flatMap innB, .fz (.lst (cur.filter repB)), e3, e4, ?_, ?_, wf_nxt dc, by simp; omega⟩
        · rw [List.map_append (l₂ := [(cur.filter repB).flatMap innB])]
          rfl
        · rw [el] at he
          rw [List.append_assoc]
          exact he
def szD (n : Nat) (ss : List D) : Nat := ((lvs n ss).map List.length).sum
def sp_script_sizeD : DSp := fun ds P => ∃ d ss n, ds = [d] ∧ IsSq d ss ∧ (∀ s ∈ ss, wf n s = true) ∧ n ≤ 50 ∧ (∀ l ∈ lvs n ss, l.length ≤ 100000) ∧ P (.int (szD n ss : Nat))
def d_script_sizeD : TDS := (sRet (dCa sumD (aCons (dLc (iSeq (dCall sp_levelsD (aCons (dV 0) aNil))) (gNm 1) tYesD (dCa lenD (aCons (dV 1) aNil)) [1]) aNil)))
theorem ln_script_sizeD {ds : List D} {P : D → Prop} (h : sp_script_sizeD ds P) : ds.length = 1 := by obtain ⟨_, _, _, rfl, _⟩ := h; rfl
theorem rd_script_sizeD {ds : List D} {P : D → Prop} (h : sp_script_sizeD ds P) : d_script_sizeD (fin false P) (st 2 ds) := by
  obtain ⟨d, ss, n, rfl, hd, dp, hn, hz, q⟩ := h
  simp only [d_script_sizeD, dC, dV, dB, dO2, ob_some, dT, dAndT, dOrT, dNotT, dIf, dAndV, dOrV, dNotV, dChain, aNil, aCons, dTup, dLst, dCut, oNone, oSome, dRev, dNeg, dTru, dCa, dIs, dIsA, dCall, dCallK, sNil, sSeq, sNever, sBrk, sCont, sIf, sRet, sRetO, sRetE, sSet, sSetO, sDrop, sPar, sPar3, kn, enOf, owD, sAsg, gNm, gsNil, gsCons, gTp, sApp, sIns, sExt, sClr, sRev, sPut, sFrz, owAt, fin, st, iRng, iRngB, iSeq, lstD, tupD, sFor, dLc, dDc, wipeE, tYesD, dIndex, dSort, dDictZip, dMeth, dFld, dMk, List.map_cons, List.map_nil, List.length_cons, List.length_nil, List.replicate_succ, List.replicate_zero, List.cons_append, List.nil_append, List.append_nil, List.getElem?_cons_zero, List.getElem?_cons_succ, List.set_cons_zero, List.set_cons_succ, Option.bind_some, Option.map_some, Nat.reduceSub, Nat.reduceAdd, kwP, List.getD_cons_zero, List.getD_cons_succ, sRaise0, sRaiseI, dCallX]
  refine .inl ⟨d, ss, n, rfl, hd, dp, hn, hz, ?_⟩
  simp only [lstD, ob_some]
  refine comp_map D.lst (fun l : List D => D.int (l.length : Nat)) (lvs n ss) [] (fun l hl Q Z hQ => ?_) (by have := lvs_len n ss; simp; omega) ?_
  · have e : lenD [.lst l] = some (.int (l.length : Nat)) := rfl
    simp only [dC, dV, dB, dO2, ob_some, dT, dAndT, dOrT, dNotT, dIf, dAndV, dOrV, dNotV, dChain, aNil, aCons, dTup, dLst, dCut, oNone, oSome, dRev, dNeg, dTru, dCa, dIs, dIsA, dCall, dCallK, sNil, sSeq, sNever, sBrk, sCont, sIf, sRet, sRetO, sRetE, sSet, sSetO, sDrop, sPar, sPar3, kn, enOf, owD, sAsg, gNm, gsNil, gsCons, gTp, sApp, sIns, sExt, sClr, sRev, sPut, sFrz, owAt, fin, st, iRng, iRngB, iSeq, lstD, tupD, sFor, dLc, dDc, wipeE, tYesD, dIndex, dSort, dDictZip, dMeth, dFld, dMk, List.map_cons, List.map_nil, List.length_cons, List.length_nil, List.replicate_succ, List.replicate_zero, List.cons_append, List.nil_append, List.append_nil, List.getElem?_cons_zero, List.getElem?_cons_succ, List.set_cons_zero, List.set_cons_succ, Option.bind_some, Option.map_some, Nat.reduceSub, Nat.reduceAdd, kwP, List.getD_cons_zero, List.getD_cons_succ, sRaise0, sRaiseI, dCallX, e, if_true]
    exact hQ
  · rw [List.nil_append]
    have e : ((lvs n ss).map fun l : List D => D.int (l.length : Nat)) = ((lvs n ss).map fun l => ((l.length : Nat) : Int)).map D.int := by rw [List.map_map]; rfl
    rw [e, sumD_map]
    have e2 : ((lvs n ss).map fun l => ((l.length : Nat) : Int)).sum = ((szD n ss : Nat) : Int) := by
      unfold szD
      generalize lvs n ss = ls
      induction ls with
      | nil => rfl
      | cons l ls ih =>
        rw [List.map_cons, List.sum_cons, List.map_cons, List.sum_cons, ih]
        push_cast
        rfl
    rw [e2]
    exact q
end DL
namespace DL
open PySem PySem.Spec PyProof.Rows L2 RK
def DpD : Nat → D → Prop
  | 0, x => repB x = false
  | n + 1, x => repB x = true → ∀ y ∈ innB x, DpD n y
end DL
namespace DL
open PySem PySem.Spec PyProof.Rows L2 RK
end DL
namespace DL
open PySem PySem.Spec PyProof.Rows L2 RK
def Sz : Nat → Nat
  | 0 => 1
  | n + 1 => 1 + (if n + 2 < 4 then 3 else 1) * Sz n
theorem Sz_pos : ∀ n, 1 ≤ Sz n
  | 0 => Nat.le_refl _
  | n + 1 => by rw [Sz]; omega
def sp_script : Nat → DSp
  | 0 => fun _ _ => False
  | N + 1 => fun ds P => ∃ (zs : List Str) (m : Int) (n : Nat), ds = [.bag, .lst (zs.map D.str), .int m, .int ((n : Nat) + 1)] ∧ 0 ≤ m ∧ m ≤ 10 ∧ n ≤ N ∧ n ≤ 5 ∧ zs ≠ [] ∧ zs.Nodup ∧ zs.length ≤ 1000 ∧ ∀ ss : List Sc, (∀ s ∈ ss, Rt zs s ∧ Dp n s) → Sc.szs ss ≤ m.toNat * Sz n → P (.lst (ss.map Sc.d))
def d_script (sp_script : DSp) : TDS := (sSeq (sSetO 4 (dLst aNil))
  (sSeq (sFor (iRng (aCons (dCall sp_pull (aCons (dV 0) (aCons (dO2 bAdd (dV 2) (dC (.int 1))) aNil))) aNil)) (gNm 5) (sIf (dAndT (dT (dO2 bGt (dV 3) (dC (.int 1)))) (dT (dO2 (bEqN false) (dCall sp_pull (aCons (dV 0) (aCons (dC (.int 4)) aNil))) (dC (.int 0))))) (sSeq (sSet 6 (dCall sp_of (aCons (dV 0) (aCons (dLst (aCons (dC (.int 0)) (aCons (dC (.int 1)) (aCons (dC (.int 2)) (aCons (dC (.int 3)) (aCons (dO2 bPow (dC (.int 10)) (dC (.int 18))) (aCons (dO2 bAdd (dC (.int 1)) (dCall sp_pull (aCons (dV 0) (aCons (dO2 bPow (dC (.int 10)) (dC (.int 18))) aNil)))) aNil))))))) aNil))))
  (sApp 4 (dTup (aCons (dC (.str "repeat")) (aCons (dV 6) (aCons (dCall sp_script (aCons (dV 0) (aCons (dV 1) (aCons (dIf (dT (dO2 bLt (dV 3) (dC (.int 4)))) (dC (.int 3)) (dC (.int 1))) (aCons (dO2 bSub (dV 3) (dC (.int 1))) aNil))))) aNil)))))) (sApp 4 (dCall sp_step (aCons (dV 0) (aCons (dV 1) aNil))))))
  (sRetO 4)))
theorem len_one (s : Sc) : Sc.szs [s] = s.sz := by rw [Sc.szs, Sc.szs]; omega
theorem rp_d (c : Int) (ss : List Sc) : (Sc.rp c ss).d = .tup [.str "repeat", .int c, .lst (ss.map Sc.d)] := by rw [Sc.d, ds_map]
theorem rd_script {N : Nat} {ds : List D} {P : D → Prop} (h : sp_script (N + 1) ds P) : d_script (sp_script N) (fin false P) (st 7 ds) := by
  obtain ⟨zs, m, n, rfl, m0, m1, nN, n5, ne, nd, hl, q⟩ := h
  have pw : bPow (.int 10) (.int 18) = some (.int 1000000000000000000) := by rw [bPow_i (by decide)]; rfl
  simp only [d_script, dC, dV, dO2, ob_some, aNil, aCons, dLst, dCall, sSeq, sSetO, enOf, fin, st, iRng, sFor, List.map_cons, List.map_nil, List.length_cons, List.length_nil, List.replicate_succ, List.replicate_zero, List.cons_append, List.nil_append, List.getElem?_cons_zero, List.getElem?_cons_succ, List.set_cons_zero, List.set_cons_succ, Nat.reduceSub, Nat.reduceAdd, bAdd_i]
  refine ⟨Nat.zero_le _, _, rfl, by omega, by omega, fun r r0 r1 => ⟨by omega, by omega, ?_⟩⟩
  refine loop_rng (fun i env => ∃ ss e5 e6, env = [.fz .bag, .fz (.lst (zs.map D.str)), .fz (.int m), .fz (.int ((n : Nat) + 1)), .ow (ss.map Sc.d), e5, e6] ∧ (∀ s ∈ ss, Rt zs s ∧ Dp n s) ∧ Sc.szs ss ≤ i * Sz n) ⟨[], _, _, rfl, (fun s hs => by cases hs), (by simp [Sc.szs])⟩ (fun i env hi h k hk => ?_) (fun env h => ?_)
  · obtain ⟨ss, e5, e6, rfl, hs, hz⟩ := h
    have i4 : i < 10 := by omega
    have sp := Sz_pos n
    have S5 : Sz n ≤ Sz 5 := by
      have : n = 0 ∨ n = 1 ∨ n = 2 ∨ n = 3 ∨ n = 4 ∨ n = 5 := by omega
      rcases this with rfl | rfl | rfl | rfl | rfl | rfl <;> decide
    have S5' : Sz 5 = 16 := rfl
    have lz : ss.length ≤ 6000 := by
      have h1 := len_szs ss
      have h2 : i * Sz n ≤ 10 * 16 := Nat.mul_le_mul (by omega) (by omega)
      omega
    have add : ∀ s : Sc, Rt zs s → Dp n s → s.sz ≤ Sz n → ∀ e5 e6, k [.fz .bag, .fz (.lst (zs.map D.str)), .fz (.int m), .fz (.int ((n : Nat) + 1)), .ow (ss.map Sc.d ++ [s.d]), e5, e6] := fun s h1 h2 h3 e5 e6 => hk _ ⟨ss ++ [s], _, _, by rw [List.map_append]; rfl, fun t ht => by
      rcases List.mem_append.mp ht with ht | ht
      · exact hs t ht
      · rw [List.mem_singleton.mp ht]
        exact ⟨h1, h2⟩, by
      rw [szs_app, len_one, Nat.add_mul, Nat.one_mul]
      omega⟩
    have plain : ∀ e5 e6, sp_step [.bag, .lst (zs.map D.str)] fun x => (ss.map Sc.d).length < sizeLine ∧ k [.fz .bag, .fz (.lst (zs.map D.str)), .fz (.int m), .fz (.int ((n : Nat) + 1)), .ow (ss.map Sc.d ++ [x]), e5, e6] := fun e5 e6 => ⟨zs, rfl, ne, nd, hl, fun s g1 g2 => ⟨by rw [List.length_map]; exact szM (by omega), add s g2 (dp_plain g1) (by
      cases s with
      | mv => exact sp
      | pl => exact sp
      | rp => cases g1) _ _⟩⟩
    have eg : bGt (.int ((n : Nat) + 1)) (.int 1) = some (.bl (decide ((n : Int) + 1 > 1))) := rfl
    simp only [dC, dV, dO2, ob_some, dT, dAndT, dIf, aNil, aCons, dTup, dLst, dCall, sSeq, sIf, sSet, gNm, sApp, owAt, List.length_cons, List.length_nil, List.getElem?_cons_zero, List.getElem?_cons_succ, List.set_cons_zero, List.set_cons_succ, Option.bind_some, Nat.reduceAdd, eg]
    by_cases h1 : (n : Int) + 1 > 1
    · rw [decide_eq_true h1]
      simp only [if_true]
      refine ⟨4, rfl, by decide, by decide, fun r2 s0 s1 => ?_⟩
      simp only [bEq_i, ob_some]
      by_cases h2 : r2 = 0
      · rw [decide_eq_true h2]
        simp only [if_true, pw, ob_some]
        refine ⟨1000000000000000000, rfl, by decide, by decide, fun r3 t0 t1 => ?_⟩
        simp only [bAdd_i, ob_some]
        refine ⟨by decide, .inl ⟨_, .inl rfl, by simp, by simp, fun x hx => ?_⟩⟩
        obtain ⟨c, rfl, c0, c1⟩ : ∃ c : Int, x = .int c ∧ 0 ≤ c ∧ c ≤ 1000000000000000000 := by
          simp only [List.mem_cons, List.not_mem_nil, or_false] at hx
          rcases hx with rfl | rfl | rfl | rfl | rfl | rfl
          · exact ⟨0, rfl, by decide, by decide⟩
          · exact ⟨1, rfl, by decide, by decide⟩
          · exact ⟨2, rfl, by decide, by decide⟩
          · exact ⟨3, rfl, by decide, by decide⟩
          · exact ⟨1000000000000000000, rfl, by decide, by decide⟩
          · exact ⟨1 + r3, rfl, by omega, by omega⟩
        obtain ⟨j, rfl⟩ : ∃ j, n = j + 1 := ⟨n - 1, by omega⟩
        have eb : bSub (.int (((j + 1 : Nat) : Int) + 1)) (.int 1) = some (.int ((j : Nat) + 1)) := by
          show some (D.int (((j + 1 : Nat) : Int) + 1 - 1)) = _
          congr 2
          omega
        obtain ⟨M, rfl⟩ : ∃ M, N = M + 1 := ⟨N - 1, by omega⟩
        have inner : ∀ m2 : Int, 0 ≤ m2 → m2 ≤ 4 → 1 + m2.toNat * Sz j ≤ Sz (j + 1) → sp_script (M + 1) [.bag, .lst (zs.map D.str), .int m2, .int ((j : Nat) + 1)] fun x => 3 ≤ sizeLine ∧ (ss.map Sc.d).length < sizeLine ∧ k [.fz .bag, .fz (.lst (zs.map D.str)), .fz (.int m), .fz (.int (((j + 1 : Nat) : Int) + 1)), .ow (ss.map Sc.d ++ [.tup [.str "repeat", .int c, x]]), .fz (.int (0 + (i : Nat))), .fz (.int c)] := fun m2 a0 a1 a2 => ⟨zs, m2, j, rfl, a0, by omega, by omega, by omega, ne, nd, hl, fun ts ht h3 => ⟨by decide, by rw [List.length_map]; exact szM (by omega), by
          have lt := len_szs ts
          have := add (.rp c ts) (.rp c0 c1 (by omega) fun s hs => (ht s hs).1) (.rp fun s hs => (ht s hs).2) (by rw [Sc.sz]; omega) (.fz (.int (0 + (i : Nat)))) (.fz (.int c))
          rw [rp_d] at this
          exact this⟩⟩
        have el : bLt (.int (((j + 1 : Nat) : Int) + 1)) (.int 4) = some (.bl (decide (((j + 1 : Nat) : Int) + 1 < 4))) := rfl
        simp only [el, eb, ob_some]
        by_cases hj : ((j + 1 : Nat) : Int) + 1 < 4
        · rw [decide_eq_true hj]
          exact inner 3 (by decide) (by decide) (by rw [Sz, if_pos (by omega)]; exact Nat.le_refl _)
        · rw [decide_eq_false hj]
          exact inner 1 (by decide) (by decide) (by rw [Sz, if_neg (by omega)]; exact Nat.le_refl _)
      · rw [decide_eq_false h2]
        simp only [Bool.false_eq_true, if_false]
        exact plain _ _
    · rw [decide_eq_false h1]
      simp only [Bool.false_eq_true, if_false]
      exact plain _ _
  · obtain ⟨ss, e5, e6, rfl, hs, hz⟩ := h
    simp only [ob_some, sRetO, owD, List.getElem?_cons_zero, List.getElem?_cons_succ, Option.bind_some]
    refine q ss hs (Nat.le_trans hz (Nat.mul_le_mul_right _ (by omega)))
theorem ln_script : ∀ {n : Nat} {ds : List D} {P : D → Prop}, sp_script n ds P → ds.length = 4
  | 0, _, _, h => h.elim
  | n + 1, _, _, h => by obtain ⟨_, _, _, rfl, _⟩ := h; rfl
def sp_l_flat : Nat → DSp
  | 0 => fun _ _ => False
  | n + 1 => fun ds P => ∃ ss : List Sc, ds = [.lst (ss.map Sc.d)] ∧ (∀ s ∈ ss, Dp n s) ∧ (∀ s ∈ ss, ∃ nm, Rt nm s) ∧ Sc.szs ss ≤ 100000 ∧ P (.lst ((Sc.fls ss).map Sc.d))
def d_l_flat (sp_l_flat : DSp) : TDS := (sSeq (sSetO 1 (dLst aNil))
  (sSeq (sFor (iSeq (dV 0)) (gNm 2) (sIf (dT (dO2 (bEqN true) (dO2 bIx (dV 2) (dC (.int 0))) (dC (.str "repeat")))) (sApp 1 (dV 2)) (sSetO 1 (dO2 bCat (dB 1) (dO2 bMul (dCall sp_l_flat (aCons (dO2 bIx (dV 2) (dC (.int 2))) aNil)) (dCa min2D (aCons (dO2 bIx (dV 2) (dC (.int 1))) (aCons (dC (.int 1)) aNil))))))))
  (sRetO 1)))
theorem word_rp2 (s : Sc) : bEqN true (.str s.word) (.str "repeat") = some (.bl (!s.isRp)) := by rw [bNe_s, word_rp]
theorem rd_l_flat {n : Nat} {ds : List D} {P : D → Prop} (h : sp_l_flat (n + 1) ds P) : d_l_flat (sp_l_flat n) (fin false P) (st 3 ds) := by
  obtain ⟨ss, rfl, dp, rt, hz, q⟩ := h
  have lw := fls_len ss
  simp only [d_l_flat, dV, ob_some, aNil, dLst, sSeq, sSetO, enOf, fin, st, iSeq, lstD, tupD, sFor, List.map_cons, List.map_nil, List.length_cons, List.length_nil, List.replicate_succ, List.replicate_zero, List.cons_append, List.nil_append, List.getElem?_cons_zero, List.set_cons_zero, List.set_cons_succ, Nat.reduceSub, Nat.reduceAdd]
  refine ⟨Nat.zero_le _, .inl ?_⟩
  refine loop_all Sc.d ss (fun pre env => ∃ e2, env = [.fz (.lst (ss.map Sc.d)), .ow ((Sc.fls pre).map Sc.d), e2]) ⟨_, by rw [Sc.fls]; rfl⟩ (fun pre s post env e h k hk => ?_) (fun env h => ?_)
  · obtain ⟨e2, rfl⟩ := h
    have hm : s ∈ ss := by rw [e]; simp
    have ap : Sc.fls (pre ++ [s]) = Sc.fls pre ++ s.fl := by rw [fls_app, Sc.fls, Sc.fls, List.append_nil]
    have tot : (Sc.fls pre).length + s.fl.length ≤ (Sc.fls ss).length := by
      rw [e, fls_app, Sc.fls, List.length_append, List.length_append]
      omega
    obtain ⟨xs, es⟩ := s.items
    have x0 : bIx s.d (.int 0) = some (.str s.word) := by rw [es]; exact bIx_tp (j := 0) rfl
    rw [ap] at hk
    simp only [dC, dV, dB, dO2, ob_some, dT, aNil, aCons, dCa, dCall, sIf, sSetO, enOf, gNm, sApp, owAt, List.getElem?_cons_zero, List.getElem?_cons_succ, List.set_cons_zero, List.set_cons_succ, Option.bind_some, x0, word_rp2]
    cases hr : s.isRp with
    | false =>
      simp only [Bool.not_false, if_true]
      have ew : s.fl = [s] := by cases s <;> first | rfl | cases hr
      rw [ew, List.map_append] at hk
      exact ⟨by rw [List.length_map]; exact szM (by omega), hk _ ⟨_, rfl⟩⟩
    | true =>
      simp only [Bool.not_true, Bool.false_eq_true, if_false]
      cases s with
      | rp c ts =>
        have x1 : bIx (Sc.rp c ts).d (.int 1) = some (.int c) := by rw [rp_d]; exact bIx_tp (j := 1) rfl
        have x2 : bIx (Sc.rp c ts).d (.int 2) = some (.lst (ts.map Sc.d)) := by rw [rp_d]; exact bIx_tp (j := 2) rfl
        have dt := dp _ hm
        cases dt with
        | rp di =>
          rename_i j
          obtain ⟨nm, rn⟩ := rt _ hm
          cases rn with
          | rp c0 c1 _ ri =>
            have zi : Sc.szs ts ≤ 100000 := by
              have h1 := szs_mem hm
              rw [Sc.sz] at h1
              omega
            have li := fls_len ts
            simp only [x1, x2, ob_some, mn_d]
            refine ⟨ts, rfl, di, fun s hs => ⟨nm, ri s hs⟩, zi, ?_⟩
            have em : bMul (.lst ((Sc.fls ts).map Sc.d)) (.int (mn c 1)) = some (.lst ((Sc.rp c ts).fl.map Sc.d)) := by
              have m0 : 0 ≤ mn c 1 ∧ mn c 1 ≤ 1 := by unfold mn; split <;> omega
              show ((if -(2 ^ 63) ≤ mn c 1 ∧ mn c 1 < 2 ^ 63 ∧ ((Sc.fls ts).map Sc.d).length * (mn c 1).toNat ≤ sizeLine then some (D.lst (List.replicate (mn c 1).toNat ((Sc.fls ts).map Sc.d)).flatten) else none).or _) = _
              rw [if_pos ⟨by omega, by omega, by
                rw [List.length_map]
                have : (Sc.fls ts).length * (mn c 1).toNat ≤ 100000 * 1 := Nat.mul_le_mul (by omega) (by omega)
                exact Nat.le_of_lt (szM (by omega))⟩]
              by_cases hc : c = 0
              · have e0 : mn c 1 = 0 := by unfold mn; split <;> omega
                rw [e0, Sc.fl, if_pos hc]
                rfl
              · have e0 : mn c 1 = 1 := by unfold mn; split <;> omega
                rw [e0, Sc.fl, if_neg hc]
                simp
            simp only [em, ob_some]
            have ec : bCat (.lst ((Sc.fls pre).map Sc.d)) (.lst ((Sc.rp c ts).fl.map Sc.d)) = some (.lst ((Sc.fls pre).map Sc.d ++ (Sc.rp c ts).fl.map Sc.d)) := by
              show (if _ then _ else _) = _
              rw [if_pos]
              rw [List.length_map, List.length_map]
              exact Nat.le_of_lt (szM (by omega))
            rw [List.map_append] at hk
            simp only [ec, ob_some]
            exact hk _ ⟨_, rfl⟩
      | _ => cases hr
  · obtain ⟨e2, rfl⟩ := h
    simp only [ob_some, sRetO, owD, List.getElem?_cons_zero, List.getElem?_cons_succ, Option.bind_some]
    exact q
theorem ln_l_flat : ∀ {n : Nat} {ds : List D} {P : D → Prop}, sp_l_flat n ds P → ds.length = 1
  | 0, _, _, h => h.elim
  | n + 1, _, _, h => by obtain ⟨_, rfl, _⟩ := h; rfl
end DL
namespace DL
open PySem PySem.Spec PyProof.Rows L2 RK
theorem DpD.up : ∀ {n : Nat} {x : D}, DpD n x → DpD (n + 1) x
  | 0, x, h => fun z => by
    have h : repB x = false := h
    rw [h] at z
    cases z
  | n + 1, x, h => fun z y hy => DpD.up (h z y hy)
theorem wf_strs {n : Nat} {ns : List Str} (h : ∀ z ∈ ns, PyData.strOk z = true) (l : ns.length ≤ 1000) : wf (n + 1) (.lst (ns.map D.str)) = true := by
  unfold wf
  rw [Bool.and_eq_true, List.all_eq_true, decide_eq_true_iff, List.length_map]
  refine ⟨l, fun x hx => ?_⟩
  obtain ⟨z, hz, rfl⟩ := List.mem_map.mp hx
  cases n <;> exact h z hz
theorem wf_tp {n : Nat} {x : D} {xs : List D} (l : (x :: xs).length ≤ 1000) (hx : x.leaf = true) (h : ∀ y ∈ x :: xs, wf n y = true) : wf (n + 1) (.tup (x :: xs)) = true := by
  unfold wf
  rw [Bool.and_eq_true, Bool.and_eq_true, List.all_eq_true, decide_eq_true_iff]
  exact ⟨l, h, by simpa using hx⟩
theorem wf_str {n : Nat} {z : Str} (h : PyData.strOk z = true) : wf n (.str z) = true := by cases n <;> exact h
theorem wf_int {n : Nat} {i : Int} : wf n (.int i) = true := by cases n <;> rfl
theorem wf_rect {n : Nat} (r : R) : wf (n + 1) (rectD r) = true := wf_tp (by simp) rfl fun y hy => by
  simp only [List.mem_cons, List.not_mem_nil, or_false] at hy
  rcases hy with rfl | rfl | rfl | rfl <;> exact wf_int
theorem word_okS (s : Sc) : PyData.strOk s.word = true := by
  have s1 : PyData.strOk "raise" = true := by decide +kernel
  have s2 : PyData.strOk "lower" = true := by decide +kernel
  have s4 : PyData.strOk "place" = true := by decide +kernel
  have s7 : PyData.strOk "repeat" = true := by decide +kernel
  cases s with
  | mv up ns =>
    cases up
    · exact s2
    · exact s1
  | pl n r => exact s4
  | rp c ss => exact s7
theorem wf_sc {nm : List Str} (hn : ∀ z ∈ nm, PyData.strOk z = true) : ∀ {n : Nat} {s : Sc}, Dp n s → Rt nm s → Sc.sz s ≤ 500 → wf (2 * n + 2) s.d = true
  | n, .mv up ns, _, rt, _ => by
    cases rt with
    | mv rm =>
      obtain ⟨_, _, sub, l⟩ := rm
      have e : (Sc.mv up ns).d = .tup [.str (Sc.mv up ns).word, .lst (ns.map D.str)] := by cases up <;> rfl
      rw [e]
      refine wf_tp (by simp) rfl fun y hy => ?_
      simp only [List.mem_cons, List.not_mem_nil, or_false] at hy
      rcases hy with rfl | rfl
      · exact wf_str (word_okS _)
      · exact wf_strs (fun z hz => hn z (sub z hz)) l
  | n, .pl z r, _, rt, _ => by
    cases rt with
    | pl hm hg =>
      refine wf_tp (by simp) rfl fun y hy => ?_
      simp only [List.mem_cons, List.not_mem_nil, or_false] at hy
      rcases hy with rfl | rfl | rfl
      · exact wf_str (by decide +kernel)
      · exact wf_str (hn z hm)
      · exact wf_rect r
  | 0, .rp c ss, dp, _, _ => by cases dp
  | n + 1, .rp c ss, dp, rt, hs => by
    cases dp with
    | rp di =>
      cases rt with
      | rp h1 h2 h3 h4 =>
        rw [Sc.sz] at hs
        have l := len_szs ss
        rw [Sc.d, ds_map]
        refine wf_tp (by simp) rfl fun y hy => ?_
        simp only [List.mem_cons, List.not_mem_nil, or_false] at hy
        rcases hy with rfl | rfl | rfl
        · exact wf_str (by decide +kernel)
        · exact wf_int
        · show wf (2 * n + 2 + 1) _ = true
          unfold wf
          rw [Bool.and_eq_true, List.all_eq_true, decide_eq_true_iff, List.length_map]
          refine ⟨by omega, fun x hx => ?_⟩
          obtain ⟨t, ht, rfl⟩ := List.mem_map.mp hx
          have := szs_mem ht
          exact wf_sc hn (di t ht) (h4 t ht) (by omega)
theorem rep_sc (s : Sc) : repB s.d = s.isRp := by
  cases s with
  | mv up ns =>
    cases up
    · exact (by decide +kernel : decide (("lower" : Str) ∈ (["repeat"] : List Str)) = false)
    · exact (by decide +kernel : decide (("raise" : Str) ∈ (["repeat"] : List Str)) = false)
  | pl n r => exact (by decide +kernel : decide (("place" : Str) ∈ (["repeat"] : List Str)) = false)
  | rp c ss => rw [Sc.d]; exact (by decide +kernel : decide (("repeat" : Str) ∈ (["repeat"] : List Str)) = true)
theorem ne_sc (s : Sc) : neT s.d = true := by
  obtain ⟨xs, e⟩ := s.items
  rw [e]
  rfl
theorem has_sc (c : Int) (ss : List Sc) : hasB (Sc.rp c ss).d = true := by
  rw [Sc.d, ds_map]
  show (true && (ss.map Sc.d).all neT) = true
  rw [Bool.true_and, List.all_eq_true]
  intro x hx
  obtain ⟨t, _, rfl⟩ := List.mem_map.mp hx
  exact ne_sc t
theorem inn_sc (c : Int) (ss : List Sc) : innB (Sc.rp c ss).d = ss.map Sc.d := by
  unfold innB
  rw [has_sc, if_pos rfl, Sc.d, ds_map]
  rfl
end DL
namespace DL
open PySem PySem.Spec PyProof.Rows L2 RK
def wfW : Nat → D → Bool
  | _, .non => true
  | _, .int _ => true
  | _, .str x => PyData.strOk x
  | n + 1, .lst xs => decide (xs.length ≤ 1000) && xs.all (wfW n)
  | n + 1, .tup xs => decide (xs.length ≤ 1000) && xs.all (wfW n)
  | _, _ => false
theorem wf_lstW {n : Nat} {xs : List D} (h : wfW (n + 1) (.lst xs) = true) : xs.length ≤ 1000 ∧ ∀ x ∈ xs, wfW n x = true := by
  unfold wfW at h
  rw [Bool.and_eq_true, List.all_eq_true, decide_eq_true_iff] at h
  exact h
theorem wf_tupW {n : Nat} {xs : List D} (h : wfW (n + 1) (.tup xs) = true) : xs.length ≤ 1000 ∧ (∀ x ∈ xs, wfW n x = true) := by
  unfold wfW at h
  rw [Bool.and_eq_true, List.all_eq_true, decide_eq_true_iff] at h
  exact h
theorem is_tupW {n : Nat} {x : D} (h : wfW n x = true) : isD "tuple" x = some (tupB x) := by
  cases n <;> cases x <;> first | (cases h; done) | exact (by decide +kernel : kitB "NoneType" "tuple" = some false) | exact (by decide +kernel : kitB "int" "tuple" = some false) | exact (by decide +kernel : kitB "str" "tuple" = some false) | exact (by decide +kernel : kitB "list" "tuple" = some false) | exact (by decide +kernel : kitB "tuple" "tuple" = some true)
theorem is_lstW {n : Nat} {x : D} (h : wfW n x = true) : isAnyD x ["list", "tuple"] = some (lstB x) := by
  have h2 := is_tupW h
  have h1 : isD "list" x = some (match x with | .lst _ => true | _ => false) := by
    cases n <;> cases x <;> first | (cases h; done) | exact (by decide +kernel : kitB "NoneType" "list" = some false) | exact (by decide +kernel : kitB "int" "list" = some false) | exact (by decide +kernel : kitB "str" "list" = some false) | exact (by decide +kernel : kitB "list" "list" = some true) | exact (by decide +kernel : kitB "tuple" "list" = some false)
  unfold isAnyD isAnyD isAnyD
  rw [h1, h2]
  cases x <;> rfl
theorem wf_blW {n : Nat} {y : D} (h : wfW n y = true) : ∀ b, y ≠ .bl b := fun b e => by
  subst e
  cases n <;> cases h
def sp_is_listW : DSp := fun ds P => ∃ (n : Nat) (x : D), ds = [x] ∧ wfW n x = true ∧ P (.bl (lstB x))
def d_is_listW : TDS := (sRet (dIsA ["list", "tuple"] (dV 0)))
theorem ln_is_listW {ds : List D} {P : D → Prop} (h : sp_is_listW ds P) : ds.length = 1 := by obtain ⟨_, _, rfl, _⟩ := h; rfl
theorem rd_is_listW {ds : List D} {P : D → Prop} (h : sp_is_listW ds P) : d_is_listW (fin false P) (st 1 ds) := by
  obtain ⟨n, x, rfl, hw, q⟩ := h
  simp only [d_is_listW, dC, dV, dB, dO2, ob_some, dT, dAndT, dOrT, dNotT, dIf, dAndV, dOrV, dNotV, dChain, aNil, aCons, dTup, dLst, dCut, oNone, oSome, dRev, dNeg, dTru, dCa, dIs, dIsA, dCall, dCallK, sNil, sSeq, sNever, sBrk, sCont, sIf, sRet, sRetO, sRetE, sSet, sSetO, sDrop, sPar, sPar3, kn, enOf, owD, sAsg, gNm, gsNil, gsCons, gTp, sApp, sIns, sExt, sClr, sRev, sPut, sFrz, owAt, fin, st, iRng, iRngB, iSeq, lstD, tupD, sFor, dLc, dDc, wipeE, tYesD, dIndex, dSort, dDictZip, dMeth, dFld, dMk, List.map_cons, List.map_nil, List.length_cons, List.length_nil, List.replicate_succ, List.replicate_zero, List.cons_append, List.nil_append, List.append_nil, List.getElem?_cons_zero, List.getElem?_cons_succ, List.set_cons_zero, List.set_cons_succ, Option.bind_some, Option.map_some, Nat.reduceSub, Nat.reduceAdd, kwP, List.getD_cons_zero, List.getD_cons_succ, is_lstW hw]
  exact q
def hdl : D → Bool
  | .tup (y :: _) => y.leaf | _ => true
def sp_begins_withW : DSp := fun ds P => ∃ (n : Nat) (x w : D) (ws : List Str), ds = [x, w] ∧ wfW n x = true ∧ hdl x = true ∧ IsWs w ws ∧ P (.bl (begB ws x))
def d_begins_withW : TDS := (sRet (dAndV (dIs "tuple" (dV 0)) (dAndV (dO2 bGt (dCa lenD (aCons (dV 0) aNil)) (dC (.int 0))) (dO2 (bIn false) (dO2 bIx (dV 0) (dC (.int 0))) (dV 1)))))
theorem ln_begins_withW {ds : List D} {P : D → Prop} (h : sp_begins_withW ds P) : ds.length = 2 := by obtain ⟨_, _, _, _, rfl, _⟩ := h; rfl
theorem rd_begins_withW {ds : List D} {P : D → Prop} (h : sp_begins_withW ds P) : d_begins_withW (fin false P) (st 2 ds) := by
  obtain ⟨n, x, w, ws, rfl, hx, hh, hw, q⟩ := h
  have it := is_tupW hx
  by_cases ht : ∃ xs, x = .tup xs
  · obtain ⟨xs, rfl⟩ := ht
    obtain ⟨m, rfl⟩ : ∃ m, n = m + 1 := by
      cases n with
      | zero => cases hx
      | succ m => exact ⟨m, rfl⟩
    obtain ⟨_, wx⟩ := wf_tupW hx
    simp only [d_begins_withW, dC, dV, dB, dO2, ob_some, dT, dAndT, dOrT, dNotT, dIf, dAndV, dOrV, dNotV, dChain, aNil, aCons, dTup, dLst, dCut, oNone, oSome, dRev, dNeg, dTru, dCa, dIs, dIsA, dCall, dCallK, sNil, sSeq, sNever, sBrk, sCont, sIf, sRet, sRetO, sRetE, sSet, sSetO, sDrop, sPar, sPar3, kn, enOf, owD, sAsg, gNm, gsNil, gsCons, gTp, sApp, sIns, sExt, sClr, sRev, sPut, sFrz, owAt, fin, st, iRng, iRngB, iSeq, lstD, tupD, sFor, dLc, dDc, wipeE, tYesD, dIndex, dSort, dDictZip, dMeth, dFld, dMk, List.map_cons, List.map_nil, List.length_cons, List.length_nil, List.replicate_succ, List.replicate_zero, List.cons_append, List.nil_append, List.append_nil, List.getElem?_cons_zero, List.getElem?_cons_succ, List.set_cons_zero, List.set_cons_succ, Option.bind_some, Option.map_some, Nat.reduceSub, Nat.reduceAdd, kwP, List.getD_cons_zero, List.getD_cons_succ, it, tupB, len_tup, gt0, if_true]
    cases xs with
    | nil => exact q
    | cons y r =>
      have i0 : bIx (.tup (y :: r)) (.int 0) = some y := bIx_tp (j := 0) rfl
      have hl : y.leaf = true := hh
      have hb := wf_blW (wx y List.mem_cons_self)
      rw [decide_eq_true (by simp : 0 < (y :: r).length)]
      simp only [if_true, i0, ob_some, in_leaf hw hl hb]
      exact q
  · have tf : tupB x = false := by cases x <;> first | rfl | exact absurd ⟨_, rfl⟩ ht
    have bf : begB ws x = false := by cases x <;> first | rfl | exact absurd ⟨_, rfl⟩ ht
    rw [bf] at q
    simp only [d_begins_withW, dC, dV, dB, dO2, ob_some, dT, dAndT, dOrT, dNotT, dIf, dAndV, dOrV, dNotV, dChain, aNil, aCons, dTup, dLst, dCut, oNone, oSome, dRev, dNeg, dTru, dCa, dIs, dIsA, dCall, dCallK, sNil, sSeq, sNever, sBrk, sCont, sIf, sRet, sRetO, sRetE, sSet, sSetO, sDrop, sPar, sPar3, kn, enOf, owD, sAsg, gNm, gsNil, gsCons, gTp, sApp, sIns, sExt, sClr, sRev, sPut, sFrz, owAt, fin, st, iRng, iRngB, iSeq, lstD, tupD, sFor, dLc, dDc, wipeE, tYesD, dIndex, dSort, dDictZip, dMeth, dFld, dMk, List.map_cons, List.map_nil, List.length_cons, List.length_nil, List.replicate_succ, List.replicate_zero, List.cons_append, List.nil_append, List.append_nil, List.getElem?_cons_zero, List.getElem?_cons_succ, List.set_cons_zero, List.set_cons_succ, Option.bind_some, Option.map_some, Nat.reduceSub, Nat.reduceAdd, kwP, List.getD_cons_zero, List.getD_cons_succ, it, tf]
    simpa using q
def sp_is_repeatW : DSp := fun ds P => ∃ (n : Nat) (x : D), ds = [x] ∧ wfW n x = true ∧ hdl x = true ∧ P (.bl (repB x))
def d_is_repeatW : TDS := (sRet (dCall sp_begins_withW (aCons (dV 0) (aCons (dTup (aCons (dC (.str "repeat")) aNil)) aNil))))
theorem ln_is_repeatW {ds : List D} {P : D → Prop} (h : sp_is_repeatW ds P) : ds.length = 1 := by obtain ⟨_, _, rfl, _⟩ := h; rfl
theorem rd_is_repeatW {ds : List D} {P : D → Prop} (h : sp_is_repeatW ds P) : d_is_repeatW (fin false P) (st 1 ds) := by
  obtain ⟨n, x, rfl, hw, hh, q⟩ := h
  simp only [d_is_repeatW, dC, dV, dB, dO2, ob_some, dT, dAndT, dOrT, dNotT, dIf, dAndV, dOrV, dNotV, dChain, aNil, aCons, dTup, dLst, dCut, oNone, oSome, dRev, dNeg, dTru, dCa, dIs, dIsA, dCall, dCallK, sNil, sSeq, sNever, sBrk, sCont, sIf, sRet, sRetO, sRetE, sSet, sSetO, sDrop, sPar, sPar3, kn, enOf, owD, sAsg, gNm, gsNil, gsCons, gTp, sApp, sIns, sExt, sClr, sRev, sPut, sFrz, owAt, fin, st, iRng, iRngB, iSeq, lstD, tupD, sFor, dLc, dDc, wipeE, tYesD, dIndex, dSort, dDictZip, dMeth, dFld, dMk, List.map_cons, List.map_nil, List.length_cons, List.length_nil, List.replicate_succ, List.replicate_zero, List.cons_append, List.nil_append, List.append_nil, List.getElem?_cons_zero, List.getElem?_cons_succ, List.set_cons_zero, List.set_cons_succ, Option.bind_some, Option.map_some, Nat.reduceSub, Nat.reduceAdd, kwP, List.getD_cons_zero, List.getD_cons_succ]
  exact ⟨by have := sizeLine_eq; omega, n, x, _, ["repeat"], rfl, hw, hh, .inr (.inl rfl), q⟩
theorem seq_itW {z : D} (h : lstB z = true) {P : List D → Prop} (q : P (itL z)) : ob (lstD z) P ∨ ob (tupD z) P ∨ ob (sgnD z) P := by
  cases z with
  | lst xs => exact .inl q
  | tup xs => exact .inr (.inl q)
  | _ => cases h
theorem wf_itW {n : Nat} {z : D} (h : wfW (n + 1) z = true) : (itL z).length ≤ 1000 ∧ ∀ x ∈ itL z, wfW n x = true := by
  cases z with
  | lst xs => exact wf_lstW h
  | tup xs => exact ⟨(wf_tupW h).1, (wf_tupW h).2⟩
  | _ => exact ⟨Nat.zero_le _, fun x hx => by cases hx⟩
theorem ne_len3W (n : Nat) : bEqN true (.int (n : Nat)) (.int 3) = some (.bl (!decide (n = 3))) := by
  show some (D.bl (true ^^ decide ((n : Int) = 3))) = _
  rw [decide_eq_decide.mpr (by omega : (n : Int) = 3 ↔ n = 3)]
  cases decide (n = 3) <;> rfl
def sp_has_nested_scriptW : DSp := fun ds P => ∃ (n : Nat) (xs : List D), ds = [.tup xs] ∧ wfW (n + 2) (.tup xs) = true ∧ P (.bl (hasB (.tup xs)))
def d_has_nested_scriptW : TDS := (sSeq (sIf (dOrT (dT (dO2 (bEqN true) (dCa lenD (aCons (dV 0) aNil)) (dC (.int 3)))) (dNotT (dT (dCall sp_is_listW (aCons (dO2 bIx (dV 0) (dC (.int 2))) aNil))))) (sRet (dC (.bl false))) sNil)
  (sRet (dCa allD (aCons (dLc (iSeq (dO2 bIx (dV 0) (dC (.int 2)))) (gNm 1) tYesD (dAndV (dIs "tuple" (dV 1)) (dO2 bGt (dCa lenD (aCons (dV 1) aNil)) (dC (.int 0)))) [1]) aNil))))
theorem ln_has_nested_scriptW {ds : List D} {P : D → Prop} (h : sp_has_nested_scriptW ds P) : ds.length = 1 := by obtain ⟨_, _, rfl, _⟩ := h; rfl
theorem rd_has_nested_scriptW {ds : List D} {P : D → Prop} (h : sp_has_nested_scriptW ds P) : d_has_nested_scriptW (fin false P) (st 2 ds) := by
  obtain ⟨n, xs, rfl, hw, q⟩ := h
  obtain ⟨hl, wx⟩ := wf_tupW hw
  simp only [d_has_nested_scriptW, dC, dV, dB, dO2, ob_some, dT, dAndT, dOrT, dNotT, dIf, dAndV, dOrV, dNotV, dChain, aNil, aCons, dTup, dLst, dCut, oNone, oSome, dRev, dNeg, dTru, dCa, dIs, dIsA, dCall, dCallK, sNil, sSeq, sNever, sBrk, sCont, sIf, sRet, sRetO, sRetE, sSet, sSetO, sDrop, sPar, sPar3, kn, enOf, owD, sAsg, gNm, gsNil, gsCons, gTp, sApp, sIns, sExt, sClr, sRev, sPut, sFrz, owAt, fin, st, iRng, iRngB, iSeq, lstD, tupD, sFor, dLc, dDc, wipeE, tYesD, dIndex, dSort, dDictZip, dMeth, dFld, dMk, List.map_cons, List.map_nil, List.length_cons, List.length_nil, List.replicate_succ, List.replicate_zero, List.cons_append, List.nil_append, List.append_nil, List.getElem?_cons_zero, List.getElem?_cons_succ, List.set_cons_zero, List.set_cons_succ, Option.bind_some, Option.map_some, Nat.reduceSub, Nat.reduceAdd, kwP, List.getD_cons_zero, List.getD_cons_succ, len_tup, ne_len3W]
  by_cases h3 : xs.length = 3
  · match xs, h3, hl, wx, q with
    | [x, y, z], _, hl, wx, q =>
      have i2 : bIx (.tup [x, y, z]) (.int 2) = some z := bIx_tp (j := 2) rfl
      have wz := wx z (by simp)
      rw [decide_eq_true (by rfl : [x, y, z].length = 3)]
      simp only [Bool.not_true, Bool.false_eq_true, if_false, i2, ob_some]
      refine ⟨n + 1, z, rfl, wz, ?_⟩
      cases hz : lstB z with
      | false =>
        have : hasB (.tup [x, y, z]) = false := by show (lstB z && _) = false; rw [hz]; rfl
        rw [this] at q
        simpa using q
      | true =>
        have : hasB (.tup [x, y, z]) = (itL z).all neT := by show (lstB z && _) = _; rw [hz]; rfl
        rw [this] at q
        simp only [Bool.not_true, Bool.false_eq_true, if_false]
        obtain ⟨lz, wi⟩ := wf_itW wz
        refine seq_itW hz ?_
        refine (show dComp _ _ _ _ _ ((itL z).map fun x => x) [] from ?_) |> fun h => by rwa [List.map_id'] at h
        refine comp_map (fun x => x) (fun x => D.bl (neT x)) (itL z) [] (fun w hx Q Z hQ => ?_) (by simp; omega) ?_
        · have it := is_tupW (wi w hx)
          by_cases ht : ∃ ys, w = .tup ys
          · obtain ⟨ys, rfl⟩ := ht
            simp only [dC, dV, dB, dO2, ob_some, dT, dAndT, dOrT, dNotT, dIf, dAndV, dOrV, dNotV, dChain, aNil, aCons, dTup, dLst, dCut, oNone, oSome, dRev, dNeg, dTru, dCa, dIs, dIsA, dCall, dCallK, sNil, sSeq, sNever, sBrk, sCont, sIf, sRet, sRetO, sRetE, sSet, sSetO, sDrop, sPar, sPar3, kn, enOf, owD, sAsg, gNm, gsNil, gsCons, gTp, sApp, sIns, sExt, sClr, sRev, sPut, sFrz, owAt, fin, st, iRng, iRngB, iSeq, lstD, tupD, sFor, dLc, dDc, wipeE, tYesD, dIndex, dSort, dDictZip, dMeth, dFld, dMk, List.map_cons, List.map_nil, List.length_cons, List.length_nil, List.replicate_succ, List.replicate_zero, List.cons_append, List.nil_append, List.append_nil, List.getElem?_cons_zero, List.getElem?_cons_succ, List.set_cons_zero, List.set_cons_succ, Option.bind_some, Option.map_some, Nat.reduceSub, Nat.reduceAdd, kwP, List.getD_cons_zero, List.getD_cons_succ, it, tupB, len_tup, gt0, if_true]
            cases ys with
            | nil => exact hQ
            | cons _ _ => exact hQ
          · have tf : tupB w = false := by cases w <;> first | rfl | exact absurd ⟨_, rfl⟩ ht
            have nf : neT w = false := by cases w <;> first | rfl | exact absurd ⟨_, rfl⟩ ht
            rw [nf] at hQ
            simp only [dC, dV, dB, dO2, ob_some, dT, dAndT, dOrT, dNotT, dIf, dAndV, dOrV, dNotV, dChain, aNil, aCons, dTup, dLst, dCut, oNone, oSome, dRev, dNeg, dTru, dCa, dIs, dIsA, dCall, dCallK, sNil, sSeq, sNever, sBrk, sCont, sIf, sRet, sRetO, sRetE, sSet, sSetO, sDrop, sPar, sPar3, kn, enOf, owD, sAsg, gNm, gsNil, gsCons, gTp, sApp, sIns, sExt, sClr, sRev, sPut, sFrz, owAt, fin, st, iRng, iRngB, iSeq, lstD, tupD, sFor, dLc, dDc, wipeE, tYesD, dIndex, dSort, dDictZip, dMeth, dFld, dMk, List.map_cons, List.map_nil, List.length_cons, List.length_nil, List.replicate_succ, List.replicate_zero, List.cons_append, List.nil_append, List.append_nil, List.getElem?_cons_zero, List.getElem?_cons_succ, List.set_cons_zero, List.set_cons_succ, Option.bind_some, Option.map_some, Nat.reduceSub, Nat.reduceAdd, kwP, List.getD_cons_zero, List.getD_cons_succ, it, tf, Bool.false_eq_true, if_false, if_true]
            exact hQ
        · rw [List.nil_append, allD_f]
          exact q
  · have : hasB (.tup xs) = false := by
      unfold hasB
      split
      · rename_i e
        cases e
        exact absurd rfl h3
      · rfl
    rw [this] at q
    rw [decide_eq_false h3]
    simpa using q
def sp_inner_stepsW : DSp := fun ds P => ∃ (n : Nat) (xs : List D), ds = [.tup xs] ∧ wfW (n + 2) (.tup xs) = true ∧ P (.lst (innB (.tup xs)))
def d_inner_stepsW : TDS := (sRet (dIf (dT (dCall sp_has_nested_scriptW (aCons (dV 0) aNil))) (dCa listD (aCons (dO2 bIx (dV 0) (dC (.int 2))) aNil)) (dLst aNil)))
theorem ln_inner_stepsW {ds : List D} {P : D → Prop} (h : sp_inner_stepsW ds P) : ds.length = 1 := by obtain ⟨_, _, rfl, _⟩ := h; rfl
theorem rd_inner_stepsW {ds : List D} {P : D → Prop} (h : sp_inner_stepsW ds P) : d_inner_stepsW (fin true P) (st 1 ds) := by
  obtain ⟨n, xs, rfl, hw, q⟩ := h
  simp only [d_inner_stepsW, dC, dV, dB, dO2, ob_some, dT, dAndT, dOrT, dNotT, dIf, dAndV, dOrV, dNotV, dChain, aNil, aCons, dTup, dLst, dCut, oNone, oSome, dRev, dNeg, dTru, dCa, dIs, dIsA, dCall, dCallK, sNil, sSeq, sNever, sBrk, sCont, sIf, sRet, sRetO, sRetE, sSet, sSetO, sDrop, sPar, sPar3, kn, enOf, owD, sAsg, gNm, gsNil, gsCons, gTp, sApp, sIns, sExt, sClr, sRev, sPut, sFrz, owAt, fin, st, iRng, iRngB, iSeq, lstD, tupD, sFor, dLc, dDc, wipeE, tYesD, dIndex, dSort, dDictZip, dMeth, dFld, dMk, List.map_cons, List.map_nil, List.length_cons, List.length_nil, List.replicate_succ, List.replicate_zero, List.cons_append, List.nil_append, List.append_nil, List.getElem?_cons_zero, List.getElem?_cons_succ, List.set_cons_zero, List.set_cons_succ, Option.bind_some, Option.map_some, Nat.reduceSub, Nat.reduceAdd, kwP, List.getD_cons_zero, List.getD_cons_succ]
  refine ⟨n, xs, rfl, hw, ?_⟩
  unfold innB at q
  cases hh : hasB (.tup xs) with
  | false =>
    rw [hh] at q
    simp only [Bool.false_eq_true, if_false] at q ⊢
    exact ⟨Nat.zero_le _, q⟩
  | true =>
    rw [hh] at q
    obtain ⟨a, b, z, e, hz, _⟩ := has3 hh
    cases e
    have i2 : bIx (.tup [a, b, z]) (.int 2) = some z := bIx_tp (j := 2) rfl
    have el : listD [z] = some (.lst (itL z)) := by cases z <;> first | rfl | (cases hz; done)
    simp only [if_true, i2, el, ob_some] at q ⊢
    exact q
theorem wf_wfW : ∀ (n : Nat) (x : D), wf n x = true → wfW n x = true := by
  intro n
  induction n with
  | zero => intro x h; cases x <;> first | exact h | cases h
  | succ n ih =>
    intro x h
    cases x with
    | lst xs =>
      obtain ⟨h1, h2⟩ := wf_lst h
      unfold wfW
      rw [Bool.and_eq_true, List.all_eq_true, decide_eq_true_iff]
      exact ⟨h1, fun x hx => ih x (h2 x hx)⟩
    | tup xs =>
      obtain ⟨h1, h2, _⟩ := wf_tup h
      unfold wfW
      rw [Bool.and_eq_true, List.all_eq_true, decide_eq_true_iff]
      exact ⟨h1, fun x hx => ih x (h2 x hx)⟩
    | _ => first | exact h | cases h
theorem wf_hdl {n : Nat} {x : D} (h : wf n x = true) : hdl x = true := by
  cases x with
  | tup xs =>
    cases n with
    | zero => cases h
    | succ n =>
      obtain ⟨_, _, h3⟩ := wf_tup h
      cases xs with
      | nil => rfl
      | cons y r =>
        show y.leaf = true
        simpa using h3
  | _ => rfl
theorem sub_is_repeat {ds : List D} {P : D → Prop} (h : sp_is_repeatD ds P) : sp_is_repeatW ds P := by
  obtain ⟨n, x, rfl, hw, q⟩ := h
  exact ⟨n, x, rfl, wf_wfW n x hw, wf_hdl hw, q⟩
theorem sub_inner_steps {ds : List D} {P : D → Prop} (h : sp_inner_stepsD ds P) : sp_inner_stepsW ds P := by
  obtain ⟨n, xs, rfl, hw, q⟩ := h
  exact ⟨n, xs, rfl, wf_wfW _ _ hw, q⟩
end DL
namespace DL
open PySem PySem.Spec PyProof.Rows L2 RK
def mvD2 : D → Bool
  | .tup [w, y] => begB ["raise", "lower"] (.tup [w, y]) && lstB y
  | _ => false
theorem mvD2_eq (y z : D) : mvD2 (.tup [y, z]) = (begB ["raise", "lower"] (.tup [y, z]) && lstB z) := rfl
def freD (x : D) : D := match x with
  | .tup [w, y] => if mvD2 (.tup [w, y]) = true then .tup [w, .lst (itL y)] else .tup [w, y]
  | x => x
def freOk (x : D) : Bool := match x with
  | .tup [w, y] => if mvD2 (.tup [w, y]) = true then w.pure && D.pureL (itL y) else D.pure (.tup [w, y])
  | x => x.pure
def sp_fresh_stepQ : DSp := fun ds P => ∃ (n : Nat) (x : D), ds = [x] ∧ wfW n x = true ∧ hdl x = true ∧ freOk x = true ∧ P (freD x)
def d_fresh_stepQ : TDS := (sSeq (sIf (dAndT (dT (dCall sp_begins_withW (aCons (dV 0) (aCons (dC (.ktp [.str "raise", .str "lower"])) aNil)))) (dAndT (dT (dO2 (bEqN false) (dCa lenD (aCons (dV 0) aNil)) (dC (.int 2)))) (dT (dCall sp_is_listW (aCons (dO2 bIx (dV 0) (dC (.int 1))) aNil))))) (sRetTN (dO2 bIx (dV 0) (dC (.int 0))) (dCa listD (aCons (dO2 bIx (dV 0) (dC (.int 1))) aNil))) sNil)
  (sRetPu (dV 0)))
theorem ln_fresh_stepQ {ds : List D} {P : D → Prop} (h : sp_fresh_stepQ ds P) : ds.length = 1 := by obtain ⟨_, _, rfl, _⟩ := h; rfl
theorem fre_other {x : D} (h : begB ["raise", "lower"] x = false) : freD x = x ∧ freOk x = x.pure := by
  unfold freD freOk
  split
  · rw [mvD2_eq, h]
    exact ⟨rfl, rfl⟩
  · exact ⟨rfl, rfl⟩
theorem rd_fresh_stepQ {ds : List D} {P : D → Prop} (h : sp_fresh_stepQ ds P) : d_fresh_stepQ (fin .pr P) (st 1 ds) := by
  obtain ⟨n, x, rfl, hw, hh, hf, q⟩ := h
  have isw : IsWs (.ktp [.str "raise", .str "lower"]) ["raise", "lower"] := .inl rfl
  simp only [d_fresh_stepQ, sRetTN, sRetPu, dC, dV, dB, dO2, ob_some, dT, dAndT, dOrT, dNotT, dIf, dAndV, dOrV, dNotV, dChain, aNil, aCons, dTup, dLst, dCut, oNone, oSome, dRev, dNeg, dTru, dCa, dIs, dIsA, dCall, dCallK, sNil, sSeq, sNever, sBrk, sCont, sIf, sRet, sRetO, sRetE, sSet, sSetO, sDrop, sPar, sPar3, kn, enOf, owD, sAsg, gNm, gsNil, gsCons, gTp, sApp, sIns, sExt, sClr, sRev, sPut, sFrz, owAt, fin, st, iRng, iRngB, iSeq, lstD, tupD, sFor, dLc, dDc, wipeE, tYesD, dIndex, dSort, dDictZip, dMeth, dFld, dMk, List.map_cons, List.map_nil, List.length_cons, List.length_nil, List.replicate_succ, List.replicate_zero, List.cons_append, List.nil_append, List.append_nil, List.getElem?_cons_zero, List.getElem?_cons_succ, List.set_cons_zero, List.set_cons_succ, Option.bind_some, Option.map_some, Nat.reduceSub, Nat.reduceAdd, kwP, List.getD_cons_zero, List.getD_cons_succ]
  refine ⟨n, x, _, ["raise", "lower"], rfl, hw, hh, isw, ?_⟩
  cases hb : begB ["raise", "lower"] x with
  | false =>
    obtain ⟨e1, e2⟩ := fre_other hb
    rw [e1] at q
    rw [e2] at hf
    simp only [Bool.false_eq_true, if_false]
    exact ⟨hf, q⟩
  | true =>
    simp only [if_true]
    obtain ⟨y, r, rfl⟩ : ∃ y r, x = .tup (y :: r) := by
      cases x with
      | tup xs => cases xs with
        | nil => cases hb
        | cons y r => exact ⟨y, r, rfl⟩
      | _ => cases hb
    have l1 := len_tup (y :: r)
    simp only [l1, ob_some]
    cases r with
    | nil =>
      have e : bEqN false (.int (([y] : List D).length : Nat)) (.int 2) = some (.bl false) := rfl
      rw [e, ob_some]
      simp only [Bool.false_eq_true, if_false]
      exact ⟨hf, q⟩
    | cons z r =>
      cases r with
      | nil =>
        have e : bEqN false (.int (([y, z] : List D).length : Nat)) (.int 2) = some (.bl true) := rfl
        have x0 : bIx (.tup [y, z]) (.int 0) = some y := bIx_tp (j := 0) rfl
        have x1 : bIx (.tup [y, z]) (.int 1) = some z := bIx_tp (j := 1) rfl
        rw [e, ob_some]
        simp only [x1, ob_some, if_true]
        obtain ⟨m, rfl⟩ : ∃ m, n = m + 1 := by cases n with
          | zero => cases hw
          | succ m => exact ⟨m, rfl⟩
        refine ⟨m, z, rfl, (wf_tupW hw).2 z (by simp), ?_⟩
        cases hz : lstB z with
        | false =>
          have hm : mvD2 (.tup [y, z]) = false := by rw [mvD2_eq, hz, Bool.and_false]
          simp only [freD, freOk, hm, Bool.false_eq_true, if_false] at hf q ⊢
          exact ⟨hf, q⟩
        | true =>
          have hm : mvD2 (.tup [y, z]) = true := by rw [mvD2_eq, hb, hz]; rfl
          have l2 : listD [z] = some (.lst (itL z)) := by cases z <;> first | rfl | cases hz
          simp only [freD, freOk, hm, if_true, Bool.and_eq_true] at hf q ⊢
          simp only [x0, l2, ob_some]
          exact ⟨hf.1, hf.2, q⟩
      | cons z2 r =>
        have e : bEqN false (.int ((y :: z :: z2 :: r).length : Nat)) (.int 2) = some (.bl false) := (bEq_i _ _).trans (congrArg (fun b => some (D.bl b)) (decide_eq_false (by simp only [List.length_cons]; omega)))
        rw [e, ob_some]
        simp only [Bool.false_eq_true, if_false]
        exact ⟨hf, q⟩
def zerB : D → Bool
  | .tup [_, .int i, _] => decide (i = 0)
  | _ => false
def flQ : Nat → List D → List D
  | 0, _ => []
  | n + 1, xs => xs.flatMap fun x => if repB x = true then (if zerB x = true then [] else flQ n (innB x)) else [freD x]
def flFq (n : Nat) (x : D) : List D := if repB x = true then (if zerB x = true then [] else flQ n (innB x)) else [freD x]
theorem flFq_eq (n : Nat) (x : D) : flFq n x = if repB x = true then (if zerB x = true then [] else flQ n (innB x)) else [freD x] := rfl
def flOkQ : Nat → List D → Prop
  | 0, _ => False
  | n + 1, xs => ∀ x ∈ xs, (∃ m, wfW (m + 2) x = true) ∧ hdl x = true ∧ (repB x = false → freOk x = true) ∧ (repB x = true → ∃ y i w, x = .tup [y, .int i, w] ∧ (i ≠ 0 → flOkQ n (innB x)))
def sp_flatQ : Nat → DSp
  | 0 => fun _ _ => False
  | n + 1 => fun ds P => ∃ d xs, ds = [d] ∧ IsSq d xs ∧ flOkQ (n + 1) xs ∧ (flQ (n + 1) xs).length ≤ 100000 ∧ P (.lst (flQ (n + 1) xs))
def d_flatQ (sp_flat : DSp) : TDS := (sGrow 1 2 (iSeq (dV 0)) (dNotT (dT (dCall sp_is_repeatW (aCons (dV 2) aNil)))) (dCall sp_fresh_stepQ (aCons (dV 2) aNil)) (dT (dO2 (bEqN true) (dCut cutA (dV 2) (oSome (dC (.int 1))) (oSome (dC (.int 2)))) (dTup (aCons (dC (.int 0)) aNil)))) (dCall sp_flat (aCons (dCall sp_inner_stepsW (aCons (dV 2) aNil)) aNil)))
theorem ln_flatQ : ∀ {n : Nat} {ds : List D} {P : D → Prop}, sp_flatQ n ds P → ds.length = 1
  | 0, _, _, h => h.elim
  | n + 1, _, _, h => by obtain ⟨_, _, rfl, _⟩ := h; rfl
theorem rd_flatQ {n : Nat} {ds : List D} {P : D → Prop} (h : sp_flatQ (n + 1) ds P) : d_flatQ (sp_flatQ n) (fin .pr P) (st 3 ds) := by
  obtain ⟨d, xs, rfl, hd, ok, hl, q⟩ := h
  refine ⟨by show (1 : Nat) < 3; decide, by show (2 : Nat) < 3; decide, ?_⟩
  show ob (lstD d) _ ∨ ob (tupD d) _ ∨ ob (sgnD d) _
  refine seq_sq hd ?_
  have key : ∀ (post pre : List D), xs = pre ++ post → gLoop 2 (dNotT (dT (dCall sp_is_repeatW (aCons (dV 2) aNil)))) (dCall sp_fresh_stepQ (aCons (dV 2) aNil)) (dT (dO2 (bEqN true) (dCut cutA (dV 2) (oSome (dC (.int 1))) (oSome (dC (.int 2)))) (dTup (aCons (dC (.int 0)) aNil)))) (dCall (sp_flatQ n) (aCons (dCall sp_inner_stepsW (aCons (dV 2) aNil)) aNil)) P [.fz d, .no, .no] post (pre.flatMap (flFq n)) := fun post => by
    induction post with
    | nil =>
      intro pre e
      rw [List.append_nil] at e
      subst e
      exact q
    | cons x post ih =>
      intro pre e
      obtain ⟨⟨m, hw⟩, hh, h1, h2⟩ := ok x (by rw [e]; simp)
      have le : (pre.flatMap (flFq n)).length + (flFq n x).length ≤ 100000 := by
        have : flQ (n + 1) xs = pre.flatMap (flFq n) ++ (flFq n x ++ post.flatMap (flFq n)) := by
          show xs.flatMap (flFq n) = _
          rw [e, List.flatMap_append, List.flatMap_cons]
        rw [this, List.length_append, List.length_append] at hl
        omega
      have ap : (pre ++ [x]).flatMap (flFq n) = pre.flatMap (flFq n) ++ flFq n x := by rw [List.flatMap_append, List.flatMap_cons, List.flatMap_nil, List.append_nil]
      have ih2 := ih (pre ++ [x]) (by rw [e]; simp)
      rw [ap] at ih2
      rw [gLoop]
      simp only [dC, dV, dB, dO2, ob_some, dT, dAndT, dOrT, dNotT, dIf, dAndV, dOrV, dNotV, dChain, aNil, aCons, dTup, dLst, dCut, oNone, oSome, dRev, dNeg, dTru, dCa, dIs, dIsA, dCall, dCallK, sNil, sSeq, sNever, sBrk, sCont, sIf, sRet, sRetO, sRetE, sSet, sSetO, sDrop, sPar, sPar3, kn, enOf, owD, sAsg, gNm, gsNil, gsCons, gTp, sApp, sIns, sExt, sClr, sRev, sPut, sFrz, owAt, fin, st, iRng, iRngB, iSeq, lstD, tupD, sFor, dLc, dDc, wipeE, tYesD, dIndex, dSort, dDictZip, dMeth, dFld, dMk, List.map_cons, List.map_nil, List.length_cons, List.length_nil, List.replicate_succ, List.replicate_zero, List.cons_append, List.nil_append, List.append_nil, List.getElem?_cons_zero, List.getElem?_cons_succ, List.set_cons_zero, List.set_cons_succ, Option.bind_some, Option.map_some, Nat.reduceSub, Nat.reduceAdd, kwP, List.getD_cons_zero, List.getD_cons_succ]
      refine ⟨m + 2, x, rfl, hw, hh, ?_⟩
      rw [flFq_eq n x] at le ih2
      cases hr : repB x with
      | false =>
        rw [hr] at le ih2
        simp only [Bool.false_eq_true, if_false, Bool.not_false, if_true] at le ih2 ⊢
        exact ⟨m + 2, x, rfl, hw, hh, h1 hr, szM (by simp only [List.length_cons, List.length_nil] at le; omega), ih2⟩
      | true =>
        obtain ⟨y, i, w, rfl, h3⟩ := h2 hr
        have ec : cutA (.tup [y, .int i, w]) (some 1) (some 2) = some (.tup [.int i]) := rfl
        rw [hr] at le ih2
        simp only [Bool.not_true, Bool.false_eq_true, if_false, if_true, ec, ob_some] at le ih2 ⊢
        refine ⟨by decide, ?_⟩
        refine beq_ob (n := 2) (by decide) rfl rfl (fun h => ?_) fun h => ?_
        · have hi : i = 0 := by injection h with h; injection h with h _; injection h
          have hz : zerB (.tup [y, .int i, w]) = true := decide_eq_true hi
          rw [hz] at le ih2
          simp only [if_true, List.append_nil] at ih2
          simp only [Bool.not_true, Bool.false_eq_true, if_false]
          exact ih2
        · have hi : i ≠ 0 := fun z => h (by rw [z])
          have hz : zerB (.tup [y, .int i, w]) = false := decide_eq_false hi
          rw [hz] at le ih2
          simp only [Bool.false_eq_true, if_false] at le ih2
          simp only [Bool.not_false, if_true]
          refine ⟨m, _, rfl, hw, ?_⟩
          cases n with
          | zero => exact (h3 hi).elim
          | succ n =>
            exact ⟨.lst (innB (.tup [y, .int i, w])), innB (.tup [y, .int i, w]), rfl, .inl rfl, h3 hi, by omega, _, rfl, by show _ ≤ sizeLine; rw [sizeLine_eq]; omega, ih2⟩
  exact key xs [] rfl
end DL
namespace DL
open PySem PySem.Spec PyProof.Rows L2 RK
def Keeps (cs : List SP) (p : List Str) : Prop := ∀ c ∈ cs, ixS p c.1 < ixS p c.2
def ext (ns : List Str) : Nat → List Str → List (List Str)
  | 0, b => [b]
  | k + 1, b => (ns.filter fun n => !(decide (n ∈ b))).flatMap fun n => ext ns k (b ++ [n])
instance (cs : List SP) (p : List Str) : Decidable (Keeps cs p) := inferInstanceAs (Decidable (∀ c ∈ cs, _))
def left (cs : List SP) (b : List Str) : List SP := cs.filter fun c => !(decide (c.1 ∈ b))
def rest (ns b : List Str) : List Str := ns.filter fun n => !(decide (n ∈ b))
end DL
namespace DL
open PySem PySem.Spec PyProof.Rows L2 RK
end DL
namespace DL
open PySem PySem.Spec PyProof.Rows L2 RK
abbrev LkH := Str × Str × Nat
structure Pot (ns : List Str) (ls : List LkH) (Φ : Str → Nat) : Prop where
  mem : ∀ l ∈ ls, l.1 ∈ ns ∧ l.2.1 ∈ ns
  le : ∀ l ∈ ls, Φ l.1 + l.2.2 ≤ Φ l.2.1
def putS (b : List SP) (k v : Str) : List SP := if (b.any fun p => decide (p.1 = k)) = true then b.map (fun p => if p.1 = k then (p.1, v) else p) else b ++ [(k, v)]
def bfr (b : List SP) (z : Str) : Option Str := (b.find? fun p => decide (p.1 = z)).map (·.2)
theorem bfr_put (b : List SP) (k v z : Str) : bfr (putS b k v) z = if k = z then some v else bfr b z := by
  unfold putS
  split
  · rename_i h
    induction b with
    | nil => simp at h
    | cons p b ih =>
      unfold bfr at ih ⊢
      rw [List.map_cons, List.find?_cons, List.find?_cons]
      by_cases e : p.1 = k
      · rw [if_pos e]
        by_cases e2 : k = z
        · have e3 : p.1 = z := e.trans e2
          simp [e2, e3]
        · have e3 : ¬ p.1 = z := fun q => e2 (e.symm.trans q)
          simp only [e3, e2, decide_false, if_false]
          by_cases hb : (b.any fun p => decide (p.1 = k)) = true
          · have := ih hb
            rw [if_neg e2] at this
            exact this
          · have : b.map (fun p => if p.1 = k then (p.1, v) else p) = b := by
              conv => rhs; rw [← List.map_id b]
              refine List.map_congr_left fun q hq => ?_
              rw [if_neg fun e => hb (List.any_eq_true.mpr ⟨q, hq, decide_eq_true e⟩)]
              rfl
            rw [this]
      · rw [if_neg e]
        have hb : (b.any fun p => decide (p.1 = k)) = true := by
          rw [List.any_cons, decide_eq_false e, Bool.false_or] at h
          exact h
        by_cases e2 : p.1 = z
        · have e3 : ¬ k = z := fun q => e (e2.trans q.symm)
          simp [e2, e3]
        · simp only [e2, decide_false]
          exact ih hb
  · rename_i h
    unfold bfr
    rw [List.find?_append]
    by_cases e : k = z
    · subst e
      have : (b.find? fun p => decide (p.1 = k)) = none := by
        rw [List.find?_eq_none]
        intro q hq hz
        exact h (List.any_eq_true.mpr ⟨q, hq, hz⟩)
      rw [this, if_pos rfl]
      simp
    · rw [if_neg e]
      have : ([(k, v)] : List SP).find? (fun p => decide (p.1 = z)) = none := by simp [e]
      rw [this, Option.or_none]
def upS (h : Str → Nat) (k : Str) (v : Nat) : Str → Nat := fun x => if x = k then v else h x
theorem upS_same {h : Str → Nat} {k : Str} {v : Nat} : upS h k v k = v := if_pos rfl
theorem upS_ne {h : Str → Nat} {k x : Str} {v : Nat} (e : x ≠ k) : upS h k v x = h x := if_neg e
structure HInv (ns : List Str) (ls : List LkH) (Φ h : Str → Nat) (b : List SP) (t : Str → Nat) (c : Nat) : Prop where
  le : ∀ x ∈ ns, h x ≤ Φ x
  bf : ∀ x y, bfr b x = some y → x ∈ ns ∧ y ∈ ns ∧ ∃ w, (y, x, w) ∈ ls ∧ h x ≤ h y + w ∧ (t y < t x ∨ h x < h y + w)
  z0 : ∀ x ∈ ns, bfr b x = none → h x = 0
  tc : ∀ x, t x ≤ c
theorem HInv.step {ns : List Str} {ls : List LkH} {Φ h t : Str → Nat} {b : List SP} {c w : Nat} {lo hi : Str} (P : Pot ns ls Φ) (I : HInv ns ls Φ h b t c) (hl : (lo, hi, w) ∈ ls) (hg : h hi < h lo + w) : HInv ns ls Φ (upS h hi (h lo + w)) (putS b hi lo) (upS t hi (c + 1)) (c + 1) := by
  obtain ⟨m1, m2⟩ := P.mem _ hl
  have pl := P.le _ hl
  have m1 : lo ∈ ns := m1
  have m2 : hi ∈ ns := m2
  have pl : Φ lo + w ≤ Φ hi := pl
  have ne : lo ≠ hi := fun e => by
    subst e
    omega
  have b0 := I.le lo m1
  refine ⟨fun x hx => ?_, fun x y h1 => ?_, fun x hx h1 => ?_, fun x => ?_⟩
  · by_cases e : x = hi
    · subst e; rw [upS_same]; omega
    · rw [upS_ne e]; exact I.le x hx
  · rw [bfr_put] at h1
    by_cases e : hi = x
    · subst e
      rw [if_pos rfl] at h1
      cases h1
      refine ⟨m2, m1, w, hl, ?_, .inl ?_⟩
      · rw [upS_same, upS_ne ne]; exact Nat.le_refl _
      · rw [upS_same, upS_ne ne]; have := I.tc lo; omega
    · rw [if_neg e] at h1
      obtain ⟨g1, g2, w2, g3, g4, g5⟩ := I.bf x y h1
      have e' : x ≠ hi := fun z => e z.symm
      by_cases e2 : y = hi
      · subst e2
        refine ⟨g1, g2, w2, g3, ?_, .inr ?_⟩ <;> rw [upS_same, upS_ne e'] <;> omega
      · refine ⟨g1, g2, w2, g3, ?_, ?_⟩
        · rw [upS_ne e', upS_ne e2]; exact g4
        · rw [upS_ne e', upS_ne e2, upS_ne e', upS_ne e2]; exact g5
  · rw [bfr_put] at h1
    by_cases e : hi = x
    · subst e; rw [if_pos rfl] at h1; cases h1
    · rw [if_neg e] at h1
      rw [upS_ne fun z => e z.symm]
      exact I.z0 x hx h1
  · by_cases e : x = hi
    · subst e; rw [upS_same]; exact Nat.le_refl _
    · rw [upS_ne e]; have := I.tc x; omega
structure Hts (ns : List Str) (ls : List LkH) (h : Str → Nat) (b : List SP) : Prop where
  ok : ∀ l ∈ ls, h l.1 + l.2.2 ≤ h l.2.1
  bf : ∀ x y, bfr b x = some y → x ∈ ns ∧ y ∈ ns ∧ ∃ w, (y, x, w) ∈ ls ∧ h x = h y + w
  z0 : ∀ x ∈ ns, bfr b x = none → h x = 0
  t : ∃ t : Str → Nat, ∀ x y, bfr b x = some y → t y < t x
inductive Way (b : List SP) : List Str → Str → Prop
  | one {z : Str} : bfr b z = none → Way b [z] z
  | cons {z y : Str} {c : List Str} : bfr b z = some y → Way b c y → Way b (c ++ [z]) z
end DL
namespace DL
open PySem PySem.Spec PyProof.Rows L2 RK
theorem sub_restS : ∀ {xs ys : List Str}, xs.Nodup → (∀ z ∈ xs, z ∈ ys) → ∃ r, (xs ++ r).Perm ys
  | [], ys, _, _ => ⟨ys, .refl _⟩
  | x :: xs, ys, n, h => by
    have nx := (List.nodup_cons.mp n).1
    obtain ⟨r, hr⟩ := sub_restS (ys := ys.erase x) (List.nodup_cons.mp n).2 fun z hz => (List.mem_erase_of_ne (fun e : z = x => nx (by rw [← e]; exact hz))).mpr (h z (List.mem_cons_of_mem _ hz))
    exact ⟨r, (List.Perm.cons x hr).trans (List.perm_cons_erase (h x List.mem_cons_self)).symm⟩
theorem sub_lenS {xs ys : List Str} (n : xs.Nodup) (h : ∀ z ∈ xs, z ∈ ys) : xs.length ≤ ys.length := by
  obtain ⟨r, hr⟩ := sub_restS n h
  have := hr.length_eq
  rw [List.length_append] at this
  omega
theorem sub_permS {xs ys : List Str} (n : xs.Nodup) (h : ∀ z ∈ xs, z ∈ ys) (l : ys.length ≤ xs.length) : xs.Perm ys := by
  obtain ⟨r, hr⟩ := sub_restS n h
  have := hr.length_eq
  rw [List.length_append] at this
  have e : r = [] := List.eq_nil_of_length_eq_zero (by omega)
  rw [e, List.append_nil] at hr
  exact hr
structure Stl (ns : List Str) (cs : List SP) (F : List Str) : Prop where
  nd : F.Nodup
  sub : ∀ z ∈ F, z ∈ ns
  kp : ∀ c ∈ cs, c.2 ∈ F → c.1 ∈ F ∧ ixS F c.1 < ixS F c.2
  lo : ∀ z ∈ ns, z ∉ F → ∃ c ∈ cs, c.2 = z ∧ c.1 ∉ F
theorem Stl.all {ns : List Str} {cs : List SP} {F : List Str} (h : Stl ns cs F) (nd : ns.Nodup) (hl : F.length = ns.length) : F.Perm ns := by
  exact sub_permS h.nd h.sub (by omega)
theorem Stl.full {ns : List Str} {cs : List SP} {F : List Str} (h : Stl ns cs F) (nd : ns.Nodup) (ha : ∀ z ∈ ns, z ∈ F) : F.length = ns.length :=
  Nat.le_antisymm (sub_lenS h.nd h.sub) (sub_lenS nd ha)
theorem Stl.keeps {ns : List Str} {cs : List SP} {F : List Str} (h : Stl ns cs F) (hc : ∀ c ∈ cs, c.2 ∈ F) : Keeps cs F := fun c hm => (h.kp c hm (hc c hm)).2
structure IsRing (cs : List SP) (r : List Str) : Prop where
  two : 2 ≤ r.length
  nd : r.Nodup
  lk : ∀ p ∈ Lk (r ++ r.take 1), p ∈ cs
theorem keeps_lk {cs : List SP} {o : List Str} (k : Keeps cs o) : ∀ (zs : List Str) (a : Str), (∀ p ∈ Lk (a :: zs), p ∈ cs) → zs ≠ [] → ∀ y, zs.getLast? = some y → ixS o a < ixS o y
  | [], _, _, h, _, _ => absurd rfl h
  | [b], a, h, _, y, e => by
    cases e
    exact k _ (h _ List.mem_cons_self)
  | b :: c :: zs, a, h, _, y, e => by
    have h1 : ixS o a < ixS o b := k _ (h (a, b) List.mem_cons_self)
    have h2 := keeps_lk k (c :: zs) b (fun p hp => h p (List.mem_cons_of_mem _ hp)) (by simp) y (by rw [← e]; simp [List.getLast?_cons_cons])
    omega
theorem IsRing.no {cs : List SP} {r o : List Str} (h : IsRing cs r) : ¬ Keeps cs o := fun k => by
  match r, h with
  | [], h => exact absurd h.two (by simp)
  | a :: zs, h =>
    have := keeps_lk k (zs ++ [a]) a (fun p hp => h.lk p (by simpa using hp)) (by simp) a (by simp)
    omega
end DL
namespace DL
open PySem PySem.Spec PyProof.Rows L2 RK
theorem cntK_le {val : Nat → Key} : ∀ n : Nat, cntK val n ≤ n
  | 0 => Nat.le_refl _
  | n + 1 => by
    have := cntK_le (val := val) n
    unfold cntK
    split <;> omega
theorem cntL_le (ks : List Key) : cntL ks ≤ ks.length := cntK_le _
end DL
namespace DL
open PySem PySem.Spec PyProof.Rows L2 RK
def hL (ns : List Str) (h : Str → Nat) : List (Key × D) := ns.map fun x => ((Sum.inr x : Key), D.int ((h x : Nat) : Int))
def hD (ns : List Str) (h : Str → Nat) : D := .dic (hL ns h)
structure MaxH (ns : List Str) (h : Str → Nat) (m : Nat) : Prop where
  ex : ∃ x ∈ ns, h x = m
  le : ∀ x ∈ ns, h x ≤ m
structure HSt (ns : List Str) (ls : List LkH) (Φ h : Str → Nat) (b : List SP) : Prop where
  i : ∃ t c, HInv ns ls Φ h b t c
  nd : (b.map (·.1)).Nodup
  sub : ∀ z, z ∈ b.map (·.1) → z ∈ ns
end DL
namespace DL
open PySem PySem.Spec PyProof.Rows L2 RK
inductive Pw (b : List SP) (z : Str) : List Str → Str → Prop
  | one : Pw b z [z] z
  | snoc {c : List Str} {y x : Str} : Pw b z c y → bfr b y = some x → Pw b z (c ++ [x]) x
theorem Pw.last {b : List SP} {z y : Str} {c : List Str} (h : Pw b z c y) : ∃ pre, c = pre ++ [y] := by
  cases h with
  | one => exact ⟨[], rfl⟩
  | snoc _ _ => exact ⟨_, rfl⟩
end DL
namespace DL
open PySem PySem.Spec PyProof.Rows L2 RK
end DL
namespace DL
open PySem PySem.Spec PyProof.Rows L2 RK
instance (nm zs : List Str) : Decidable (∀ z ∈ zs, z ∈ nm) := List.decidableBAll (fun z => z ∈ nm) zs
def ClnG (os : List Str) (h : Str → Nat) (b : List SP) (m : Nat) (c : List Str) : Prop := (m = 0 → c = []) ∧ (m ≠ 0 → ∃ z y c0, z ∈ os ∧ h z = m ∧ Pw b z c0 y ∧ c0.Nodup ∧ (∀ u ∈ c0, u ∈ os) ∧ bfr b y = none ∧ c = c0.reverse)
theorem ClnG.sub {os : List Str} {h : Str → Nat} {b : List SP} {m : Nat} {c : List Str} (C : ClnG os h b m c) : (∀ u ∈ c, u ∈ os) ∧ c.length ≤ os.length := by
  by_cases hm : m = 0
  · rw [C.1 hm]
    exact ⟨fun u h => (by cases h), Nat.zero_le _⟩
  · obtain ⟨z, y, c0, _, _, _, nd, sub, _, rfl⟩ := C.2 hm
    exact ⟨fun u h => sub u (List.mem_reverse.mp h), by rw [List.length_reverse]; exact sub_lenS nd sub⟩
end DL
namespace DL
open PySem PySem.Spec PyProof.Rows L2 RK
def rlxF (s : (Str → Nat) × List SP) (l : LkH) : (Str → Nat) × List SP := if s.1 l.2.1 < s.1 l.1 + l.2.2 then (upS s.1 l.2.1 (s.1 l.1 + l.2.2), putS s.2 l.2.1 l.1) else s
def pasF (ls : List LkH) (s : (Str → Nat) × List SP) : (Str → Nat) × List SP := ls.foldl rlxF s
def itF (ls : List LkH) : Nat → (Str → Nat) × List SP
  | 0 => (fun _ => 0, [])
  | k + 1 => pasF ls (itF ls k)
def HB (ls : List LkH) (h : Str → Nat) (b : List SP) : Prop := (∃ k, (h, b) = itF ls k) ∧ ∀ l ∈ ls, h l.1 + l.2.2 ≤ h l.2.1
theorem pas_ok {h : Str → Nat} {b : List SP} : ∀ ls : List LkH, (∀ l ∈ ls, h l.1 + l.2.2 ≤ h l.2.1) → pasF ls (h, b) = (h, b)
  | [], _ => rfl
  | l :: ls, k => by
    have h1 := k l List.mem_cons_self
    show pasF ls (rlxF (h, b) l) = _
    have e : rlxF (h, b) l = (h, b) := if_neg (by show ¬ h l.2.1 < h l.1 + l.2.2; omega)
    rw [e]
    exact pas_ok ls fun x hx => k x (List.mem_cons_of_mem _ hx)
theorem HB.one {ls : List LkH} {h h' : Str → Nat} {b b' : List SP} (x : HB ls h b) (y : HB ls h' b') : h = h' ∧ b = b' := by
  have st : ∀ {h b} (z : HB ls h b) (k : Nat), (h, b) = itF ls k → ∀ j, (h, b) = itF ls (k + j) := fun {h b} z k e j => by
    induction j with
    | zero => exact e
    | succ j ih =>
      show (h, b) = pasF ls (itF ls (k + j))
      rw [← ih, pas_ok ls z.2]
  obtain ⟨k, e⟩ := x.1
  obtain ⟨k', e'⟩ := y.1
  have e1 := st x k e k'
  have e2 := st y k' e' k
  rw [Nat.add_comm] at e2
  have e3 := e1.trans e2.symm
  exact ⟨congrArg (·.1) e3, congrArg (·.2) e3⟩
theorem pw_det {b : List SP} {z : Str} : ∀ {c1 y1}, Pw b z c1 y1 → ∀ {c2 y2}, Pw b z c2 y2 → c1.length = c2.length → c1 = c2 ∧ y1 = y2 := by
  intro c1 y1 h1
  induction h1 with
  | one =>
    intro c2 y2 h2 hl
    cases h2 with
    | one => exact ⟨rfl, rfl⟩
    | snoc h e =>
      obtain ⟨pre, rfl⟩ := h.last
      simp at hl
  | snoc h e ih =>
    intro c2 y2 h2 hl
    cases h2 with
    | one =>
      obtain ⟨pre, rfl⟩ := h.last
      simp at hl
    | snoc h' e' =>
      rw [List.length_append, List.length_append] at hl
      obtain ⟨rfl, rfl⟩ := ih h' (by simpa using hl)
      rw [e] at e'
      cases e'
      exact ⟨rfl, rfl⟩
theorem pw_pre {b : List SP} {z : Str} : ∀ {c y}, Pw b z c y → ∀ n, 1 ≤ n → n < c.length → ∃ c' y', Pw b z c' y' ∧ c'.length = n ∧ (bfr b y').isSome = true := by
  intro c y h
  induction h with
  | one => intro n h1 h2; simp at h2; omega
  | @snoc c y x h e ih =>
    intro n h1 h2
    rw [List.length_append] at h2
    have h2 : n < c.length + 1 := h2
    by_cases k : n = c.length
    · exact ⟨c, y, h, k.symm, by rw [e]; rfl⟩
    · exact ih n h1 (by omega)
theorem pw_one {b : List SP} {z y1 y2 : Str} {c1 c2 : List Str} (h1 : Pw b z c1 y1) (h2 : Pw b z c2 y2) (e1 : bfr b y1 = none) (e2 : bfr b y2 = none) : c1 = c2 := by
  have p1 : 1 ≤ c1.length := by obtain ⟨pre, rfl⟩ := h1.last; simp
  have p2 : 1 ≤ c2.length := by obtain ⟨pre, rfl⟩ := h2.last; simp
  rcases Nat.lt_trichotomy c1.length c2.length with k | k | k
  · obtain ⟨c', y', h', hl, s⟩ := pw_pre h2 _ p1 k
    obtain ⟨_, rfl⟩ := pw_det h1 h' hl.symm
    rw [e1] at s; cases s
  · exact (pw_det h1 h2 k).1
  · obtain ⟨c', y', h', hl, s⟩ := pw_pre h1 _ p2 k
    obtain ⟨_, rfl⟩ := pw_det h2 h' hl.symm
    rw [e2] at s; cases s
def ClnR (os : List Str) (h : Str → Nat) (b : List SP) (m : Nat) (c : List Str) : Prop := (m = 0 → c = []) ∧ (m ≠ 0 → ∃ z y c0, (os.filter fun x => decide (h x = m)).head? = some z ∧ z ∈ os ∧ h z = m ∧ Pw b z c0 y ∧ c0.Nodup ∧ (∀ u ∈ c0, u ∈ os) ∧ bfr b y = none ∧ c = c0.reverse)
theorem ClnR.one {os : List Str} {h : Str → Nat} {b : List SP} {m : Nat} {c c' : List Str} (x : ClnR os h b m c) (y : ClnR os h b m c') : c = c' := by
  by_cases hm : m = 0
  · rw [x.1 hm, y.1 hm]
  · obtain ⟨z, y1, c0, a1, _, _, a2, _, _, a3, rfl⟩ := x.2 hm
    obtain ⟨z', y2, c1, b1, _, _, b2, _, _, b3, rfl⟩ := y.2 hm
    rw [a1] at b1
    cases b1
    rw [pw_one a2 b2 a3 b3]
theorem ClnR.g {os : List Str} {h : Str → Nat} {b : List SP} {m : Nat} {c : List Str} (x : ClnR os h b m c) : ClnG os h b m c := ⟨x.1, fun hm => by
  obtain ⟨z, y1, c0, _, r⟩ := x.2 hm
  exact ⟨z, y1, c0, r⟩⟩
end DL
namespace DL
open PySem PySem.Spec PyProof.Rows L2 RK
end DL
namespace DL
open PySem PySem.Spec PyProof.Rows L2 RK
end DL
namespace DL
open PySem PySem.Spec PyProof.Rows L2 RK
structure ClnOk (os : List Str) (ps : List SP) (m : Nat) (c : List Str) : Prop where
  mem : ∀ u ∈ c, u ∈ os
  len : c.length ≤ os.length
  tl : m ≠ 0 → c ≠ [] ∧ tlD os ps c = .int ((m : Nat) : Int)
  z : m = 0 → c = []
end DL
namespace DL
open PySem PySem.Spec PyProof.Rows L2 RK
end DL
namespace DL
open PySem PySem.Spec PyProof.Rows L2 RK
end DL
namespace DL
open PySem PySem.Spec PyProof.Rows L2 RK
end DL
namespace DL
open PySem PySem.Spec PyProof.Rows L2 RK
def smI : Nat → D → Bool
  | _, .int i => decide (i.natAbs < 10 ^ 12)
  | n + 1, .lst xs => xs.all (smI n)
  | n + 1, .tup xs => xs.all (smI n)
  | _, .str _ => true
  | _, .non => true
  | _, _ => false
theorem log_small {m : Nat} (h : m < 10 ^ 12) : m.log2 < 40 := by
  rcases Nat.eq_zero_or_pos m with e | e
  · rw [e]; decide
  · exact (Nat.log2_lt (by omega)).mpr (Nat.lt_of_lt_of_le h (by decide))
theorem wt_all {B : Nat} : ∀ {xs : List D}, (∀ x ∈ xs, (toP x).weight ≤ B) → PyData.weightAll (toPA xs) ≤ xs.length * (B + 1)
  | [], _ => by rw [toPA, PyData.weightAll]; exact Nat.zero_le _
  | x :: xs, h => by
    rw [toPA, PyData.weightAll, List.length_cons, Nat.add_mul, Nat.one_mul]
    have h1 := h x List.mem_cons_self
    have h2 := wt_all fun y hy => h y (List.mem_cons_of_mem _ hy)
    omega
end DL
namespace DL
open PySem PySem.Spec PyProof.Rows L2 RK
end DL
namespace DL
open PySem PySem.Spec PyProof.Rows L2 RK
end DL
namespace DL
open PySem PySem.Spec PyProof.Rows L2 RK
end DL
namespace DL
open PySem PySem.Spec PyProof.Rows L2 RK
end DL
namespace DL
open PySem PySem.Spec PyProof.Rows L2 RK
end DL
namespace DL
open PySem PySem.Spec PyProof.Rows L2 RK
end DL
namespace DL
open PySem PySem.Spec PyProof.Rows L2 RK
end DL
namespace DL
open PySem PySem.Spec PyProof.Rows L2 RK
end DL
namespace DL
open PySem PySem.Spec PyProof.Rows L2 RK
end DL
namespace DL
open PySem PySem.Spec PyProof.Rows L2 RK
structure HnOk (RN : TDE) : Prop where
  h : ∀ (ws : List Win) (r : De) (Q : D → Prop), ws.length ≤ 100 → Q (.int ((ws.length * 2 + 2 : Nat) : Int)) → RN (.fz (winD ws) :: r) Q
end DL
namespace DL
open PySem PySem.Spec PyProof.Rows L2 RK
theorem wt_int {i : Int} (h : i.natAbs < 10 ^ 12) : (PyData.int i).weight ≤ 40 := by
  have := log_small h
  rw [PyData.weight]
  split <;> omega
theorem wt_name {z : Str} (h : NameOk z) : (PyData.str z).weight ≤ 6 := by
  rw [PyData.weight]
  exact h.2.1
theorem wt_names {zs : List Str} (h : ∀ z ∈ zs, NameOk z) : PyData.weightAll (toPA (zs.map D.str)) ≤ zs.length * 7 := by
  have := wt_all (B := 6) (xs := zs.map D.str) fun x hx => by
    obtain ⟨z, hz, rfl⟩ := List.mem_map.mp hx
    rw [toP]
    exact wt_name (h z hz)
  rw [List.length_map] at this
  exact this
theorem step_small {nm : List Str} (no : ∀ z ∈ nm, NameOk z) {s : Sc} (h : s.isRp = false ∧ Rt nm s) : sh 2 s.d = true ∧ smI 2 s.d = true ∧ (toP s.d).weight ≤ 7100 := by
  obtain ⟨h0, h⟩ := h
  cases h with
  | @mv up ns g =>
    have nn : ∀ z ∈ ns, NameOk z := fun z hz => no z (g.2.2.1 z hz)
    have so : PyData.strOk (Sc.mv up ns).word = true := by
      cases up
      · show PyData.strOk "lower" = true
        decide +kernel
      · show PyData.strOk "raise" = true
        decide +kernel
    have wl : (PyData.str (Sc.mv up ns).word).weight ≤ 10 := by
      cases up
      · show (PyData.str "lower").weight ≤ 10
        decide +kernel
      · show (PyData.str "raise").weight ≤ 10
        decide +kernel
    rw [mv_d]
    refine ⟨?_, ?_, ?_⟩
    · show (PyData.strOk (Sc.mv up ns).word && (sh 1 (.lst (ns.map D.str)) && true)) = true
      rw [so, sh_names nn]
      rfl
    · show (true && ((ns.map D.str).all (smI 0) && true)) = true
      have : (ns.map D.str).all (smI 0) = true := by
        rw [List.all_eq_true]
        intro x hx
        obtain ⟨z, hz, rfl⟩ := List.mem_map.mp hx
        rfl
      rw [this]
      rfl
    · have w := wt_names nn
      have l := g.2.2.2
      simp only [toP, toPA, PyData.weight, PyData.weightAll] at w wl ⊢
      omega
  | @pl n r g1 g2 =>
    have hn := no _ g1
    have so : PyData.strOk "place" = true := by decide +kernel
    have wl : (PyData.str "place").weight ≤ 10 := by decide +kernel
    have wn := wt_name hn
    have sn := name_ok hn
    obtain ⟨b1, b2, b3, b4, b5, b6, b7, b8, _, _⟩ := g2
    have q : (10 : Nat) ^ 12 = 1000000000000 := by decide
    have i1 : r.l.natAbs < 10 ^ 12 := by rw [q]; omega
    have i2 : r.t.natAbs < 10 ^ 12 := by rw [q]; omega
    have i3 : r.r.natAbs < 10 ^ 12 := by rw [q]; omega
    have i4 : r.b.natAbs < 10 ^ 12 := by rw [q]; omega
    have ed : (Sc.pl n r).d = .tup [.str "place", .str n, .tup [.int r.l, .int r.t, .int r.r, .int r.b]] := rfl
    rw [ed]
    refine ⟨?_, ?_, ?_⟩
    · show (PyData.strOk "place" && (PyData.strOk n && (true && true))) = true
      rw [so, sn]
      rfl
    · show (true && (true && ((decide (r.l.natAbs < 10 ^ 12) && (decide (r.t.natAbs < 10 ^ 12) && (decide (r.r.natAbs < 10 ^ 12) && (decide (r.b.natAbs < 10 ^ 12) && true)))) && true))) = true
      rw [decide_eq_true i1, decide_eq_true i2, decide_eq_true i3, decide_eq_true i4]
      rfl
    · have w1 := wt_int i1
      have w2 := wt_int i2
      have w3 := wt_int i3
      have w4 := wt_int i4
      simp only [toP, toPA, PyData.weightAll]
      rw [PyData.weight]
      simp only [PyData.weightAll]
      have e4 : (PyData.tuple [PyData.int r.l, PyData.int r.t, PyData.int r.r, PyData.int r.b]).weight = (PyData.int r.l).weight + 1 + ((PyData.int r.t).weight + 1 + ((PyData.int r.r).weight + 1 + ((PyData.int r.b).weight + 1 + 0))) := by
        rw [PyData.weight]
        simp only [PyData.weightAll]
      rw [e4]
      omega
  | rp => cases h0
def Rpr (x : D) (q : PyData) : Prop := toPy x = some q ∧ q.showable = true ∧ q.hasDict = false ∧ q.depth ≤ 60 ∧ q.shown.length ≤ sizeLine
end DL
namespace DL
open PySem PySem.Spec PyProof.Rows L2 RK
def smJ : Nat → D → Bool
  | _, .int i => decide (i.natAbs < 10 ^ 19)
  | n + 1, .lst xs => xs.all (smJ n)
  | n + 1, .tup xs => xs.all (smJ n)
  | _, .str _ => true
  | _, .non => true
  | _, _ => false
theorem shown_int20 {i : Int} (h : i.natAbs < 10 ^ 19) : (PyData.shown (.int i)).length ≤ 20 := by
  have e := PySem.int_text_length_le10 (k := 19) (by decide) h
  show (Str.ofString (toString i)).length ≤ 20
  rw [PySem.ofString_length]; exact e
theorem log_smallJ {m : Nat} (h : m < 10 ^ 19) : m.log2 < 64 := by
  rcases Nat.eq_zero_or_pos m with e | e
  · rw [e]; decide
  · exact (Nat.log2_lt (by omega)).mpr (Nat.lt_of_lt_of_le h (by decide))
theorem show_smJ : ∀ (n : Nat) (x : D), sh n x = true → smJ n x = true → (toP x).showable = true ∧ (toP x).intsShort 20 = true := by
  have leafI : ∀ i : Int, decide (i.natAbs < 10 ^ 19) = true → (PyData.int i).showable = true ∧ (PyData.int i).intsShort 20 = true := fun i h => by
    have h' := of_decide_eq_true h
    have := log_smallJ h'
    exact ⟨by rw [PyData.showable]; exact decide_eq_true (by omega), by rw [PyData.intsShort]; exact decide_eq_true (shown_int20 h')⟩
  have leaf : ∀ x : D, (∀ xs, x ≠ .lst xs) → (∀ xs, x ≠ .tup xs) → ∀ n, sh n x = true → smJ n x = true → (toP x).showable = true ∧ (toP x).intsShort 20 = true := by
    intro x h1 h2 n hs hm
    cases x with
    | non => exact ⟨by rw [toP, PyData.showable], by rw [toP, PyData.intsShort]⟩
    | str z => exact ⟨by rw [toP, PyData.showable], by rw [toP, PyData.intsShort]⟩
    | int i =>
      rw [toP]
      exact leafI i (by cases n <;> exact hm)
    | lst xs => exact absurd rfl (h1 xs)
    | tup xs => exact absurd rfl (h2 xs)
    | _ => cases n <;> cases hs
  intro n
  induction n with
  | zero =>
    intro x hs hm
    refine leaf x (fun xs e => ?_) (fun xs e => ?_) 0 hs hm
    · subst e; cases hs
    · subst e; cases hs
  | succ n ih =>
    have all : ∀ xs : List D, xs.all (sh n) = true → xs.all (smJ n) = true → PyData.showableAll (toPA xs) = true ∧ PyData.intsShortAll 20 (toPA xs) = true := by
      intro xs
      induction xs with
      | nil => intro _ _; exact ⟨by rw [toPA, PyData.showableAll], by rw [toPA, PyData.intsShortAll]⟩
      | cons y ys ih2 =>
        intro h1 h2
        rw [List.all_cons, Bool.and_eq_true] at h1 h2
        have a := ih y h1.1 h2.1
        have b := ih2 h1.2 h2.2
        exact ⟨by rw [toPA, PyData.showableAll, a.1, b.1]; rfl, by rw [toPA, PyData.intsShortAll, a.2, b.2]; rfl⟩
    intro x hs hm
    by_cases e1 : ∃ xs, x = .lst xs
    · obtain ⟨xs, rfl⟩ := e1
      have := all xs hs hm
      exact ⟨by rw [toP, PyData.showable]; exact this.1, by rw [toP, PyData.intsShort]; exact this.2⟩
    · by_cases e2 : ∃ xs, x = .tup xs
      · obtain ⟨xs, rfl⟩ := e2
        have := all xs hs hm
        exact ⟨by rw [toP, PyData.showable]; exact this.1, by rw [toP, PyData.intsShort]; exact this.2⟩
      · exact leaf x (fun xs e => e1 ⟨xs, e⟩) (fun xs e => e2 ⟨xs, e⟩) (n + 1) hs hm
theorem rprJ {n : Nat} {xs : List D} (hn : n ≤ 60) (hs : sh n (.lst xs) = true) (hm : smJ n (.lst xs) = true) (hw : (toP (.lst xs)).weight ≤ 700000) : ∃ q, Rpr (.lst xs) q := by
  obtain ⟨e, c, d⟩ := sh_py n _ hs
  obtain ⟨s1, s2⟩ := show_smJ n _ hs hm
  refine ⟨_, e, s1, PyData.hasDict_of_canLay _ c, by omega, ?_⟩
  have h2 := PyData.shown_le 20 (by decide) _ (PyData.leavesShort_of_canLay0 20 _ c s2)
  rw [sizeLine_eq]
  omega
theorem sh_up : ∀ (n : Nat) (x : D), sh n x = true → sh (n + 1) x = true := by
  intro n
  induction n with
  | zero => intro x h; cases x <;> first | rfl | exact h | cases h
  | succ n ih =>
    intro x h
    cases x with
    | lst xs =>
      show xs.all (sh (n + 1)) = true
      have h' : xs.all (sh n) = true := h
      rw [List.all_eq_true] at h' ⊢
      exact fun y hy => ih y (h' y hy)
    | tup xs =>
      show xs.all (sh (n + 1)) = true
      have h' : xs.all (sh n) = true := h
      rw [List.all_eq_true] at h' ⊢
      exact fun y hy => ih y (h' y hy)
    | _ => first | rfl | exact h | cases h
theorem smJ_up : ∀ (n : Nat) (x : D), smJ n x = true → smJ (n + 1) x = true := by
  intro n
  induction n with
  | zero => intro x h; cases x <;> first | rfl | exact h | cases h
  | succ n ih =>
    intro x h
    cases x with
    | lst xs =>
      show xs.all (smJ (n + 1)) = true
      have h' : xs.all (smJ n) = true := h
      rw [List.all_eq_true] at h' ⊢
      exact fun y hy => ih y (h' y hy)
    | tup xs =>
      show xs.all (smJ (n + 1)) = true
      have h' : xs.all (smJ n) = true := h
      rw [List.all_eq_true] at h' ⊢
      exact fun y hy => ih y (h' y hy)
    | _ => first | rfl | exact h | cases h
theorem smI_J : ∀ (n : Nat) (x : D), smI n x = true → smJ n x = true := by
  have li : ∀ i : Int, decide (i.natAbs < 10 ^ 12) = true → decide (i.natAbs < 10 ^ 19) = true := fun i h => decide_eq_true (Nat.lt_trans (of_decide_eq_true h) (by decide))
  intro n
  induction n with
  | zero =>
    intro x h
    cases x with
    | int i => exact li i h
    | _ => first | rfl | exact h | cases h
  | succ n ih =>
    intro x h
    cases x with
    | lst xs =>
      have h' : xs.all (smI n) = true := h
      show xs.all (smJ n) = true
      rw [List.all_eq_true] at h' ⊢
      exact fun y hy => ih y (h' y hy)
    | tup xs =>
      have h' : xs.all (smI n) = true := h
      show xs.all (smJ n) = true
      rw [List.all_eq_true] at h' ⊢
      exact fun y hy => ih y (h' y hy)
    | int i => exact li i h
    | _ => first | rfl | exact h | cases h
theorem sh_le {n m : Nat} {x : D} (h : sh n x = true) (hm : n ≤ m) : sh m x = true := by
  induction hm with
  | refl => exact h
  | step _ ih => exact sh_up _ _ ih
theorem smJ_le {n m : Nat} {x : D} (h : smJ n x = true) (hm : n ≤ m) : smJ m x = true := by
  induction hm with
  | refl => exact h
  | step _ ih => exact smJ_up _ _ ih
theorem wt_tup (xs : List PyData) : (PyData.tuple xs).weight = PyData.weightAll xs := by rw [PyData.weight]
theorem wt_lst (xs : List PyData) : (PyData.list xs).weight = PyData.weightAll xs := by rw [PyData.weight]
theorem wtA_cons (x : PyData) (xs : List PyData) : PyData.weightAll (x :: xs) = x.weight + 1 + PyData.weightAll xs := by rw [PyData.weightAll]
theorem wtA_nil : PyData.weightAll [] = 0 := by rw [PyData.weightAll]
end DL
namespace DL
open PySem PySem.Spec PyProof.Rows L2 RK
theorem step24 {nm : List Str} (no : ∀ z ∈ nm, NameOk z) (l24 : nm.length ≤ 24) {s : Sc} (h : s.isRp = false ∧ Rt nm s) : (toP s.d).weight ≤ 300 := by
  obtain ⟨h0, h⟩ := h
  cases h with
  | @mv up ns g =>
    have nn : ∀ z ∈ ns, NameOk z := fun z hz => no z (g.2.2.1 z hz)
    have wl : (PyData.str (Sc.mv up ns).word).weight ≤ 10 := by
      cases up
      · show (PyData.str "lower").weight ≤ 10
        decide +kernel
      · show (PyData.str "raise").weight ≤ 10
        decide +kernel
    rw [mv_d]
    have w := wt_names nn
    have l := sub_lenS g.2.1 g.2.2.1
    simp only [toP, toPA, PyData.weight, PyData.weightAll] at w wl ⊢
    omega
  | @pl n r g1 g2 =>
    have hn := no _ g1
    have so : PyData.strOk "place" = true := by decide +kernel
    have wl : (PyData.str "place").weight ≤ 10 := by decide +kernel
    have wn := wt_name hn
    have sn := name_ok hn
    obtain ⟨b1, b2, b3, b4, b5, b6, b7, b8, _, _⟩ := g2
    have q : (10 : Nat) ^ 12 = 1000000000000 := by decide
    have i1 : r.l.natAbs < 10 ^ 12 := by rw [q]; omega
    have i2 : r.t.natAbs < 10 ^ 12 := by rw [q]; omega
    have i3 : r.r.natAbs < 10 ^ 12 := by rw [q]; omega
    have i4 : r.b.natAbs < 10 ^ 12 := by rw [q]; omega
    have ed : (Sc.pl n r).d = .tup [.str "place", .str n, .tup [.int r.l, .int r.t, .int r.r, .int r.b]] := rfl
    rw [ed]
    have w1 := wt_int i1
    have w2 := wt_int i2
    have w3 := wt_int i3
    have w4 := wt_int i4
    simp only [toP, toPA, PyData.weightAll]
    rw [PyData.weight]
    simp only [PyData.weightAll]
    have e4 : (PyData.tuple [PyData.int r.l, PyData.int r.t, PyData.int r.r, PyData.int r.b]).weight = (PyData.int r.l).weight + 1 + ((PyData.int r.t).weight + 1 + ((PyData.int r.r).weight + 1 + ((PyData.int r.b).weight + 1 + 0))) := by
      rw [PyData.weight]
      simp only [PyData.weightAll]
    rw [e4]
    omega
  | rp => cases h0
theorem wt_sum24 : ∀ {ss : List Sc}, (∀ s ∈ ss, (toP s.d).weight + 1 ≤ 400 * s.sz) → PyData.weightAll (toPA (ss.map Sc.d)) ≤ 400 * Sc.szs ss
  | [], _ => by rw [List.map_nil, toPA, PyData.weightAll]; exact Nat.zero_le _
  | s :: ss, h => by
    rw [List.map_cons, toPA, PyData.weightAll, Sc.szs, Nat.mul_add]
    have h1 := h s List.mem_cons_self
    have h2 := wt_sum24 fun y hy => h y (List.mem_cons_of_mem _ hy)
    omega
theorem sc_small24 {nm : List Str} (no : ∀ z ∈ nm, NameOk z) (l24 : nm.length ≤ 24) : ∀ {n : Nat} {s : Sc}, Dp n s → Rt nm s → sh (2 * n + 2) s.d = true ∧ smJ (2 * n + 2) s.d = true ∧ (toP s.d).weight + 1 ≤ 400 * s.sz := by
  intro n s h
  induction h with
  | @mv n up ns =>
    intro rt
    obtain ⟨h1, h2, h3⟩ := step_small no (s := .mv up ns) ⟨rfl, rt⟩
    have h3 := step24 no l24 (s := .mv up ns) ⟨rfl, rt⟩
    exact ⟨sh_le h1 (by omega), smJ_le (smI_J _ _ h2) (by omega), by rw [Sc.sz]; omega⟩
  | @pl n z r =>
    intro rt
    obtain ⟨h1, h2, h3⟩ := step_small no (s := .pl z r) ⟨rfl, rt⟩
    have h3 := step24 no l24 (s := .pl z r) ⟨rfl, rt⟩
    exact ⟨sh_le h1 (by omega), smJ_le (smI_J _ _ h2) (by omega), by rw [Sc.sz]; omega⟩
  | @rp n c ss _ ih =>
    intro rt
    cases rt with
    | rp g1 g2 g3 g4 =>
      have so : PyData.strOk "repeat" = true := by decide +kernel
      have wl : (PyData.str "repeat").weight ≤ 10 := by decide +kernel
      have ed : (Sc.rp c ss).d = .tup [.str "repeat", .int c, .lst (ss.map Sc.d)] := by rw [Sc.d, ds_map]
      have ci : c.natAbs < 10 ^ 19 := by
        have q : (10 : Nat) ^ 19 = 10000000000000000000 := by decide
        rw [q]; omega
      have all := fun s hs => ih s hs (g4 s hs)
      rw [ed]
      refine ⟨?_, ?_, ?_⟩
      · show (PyData.strOk "repeat" && (true && ((ss.map Sc.d).all (sh (2 * n + 2)) && true))) = true
        have : (ss.map Sc.d).all (sh (2 * n + 2)) = true := by
          rw [List.all_eq_true]
          intro x hx
          obtain ⟨s, hs, rfl⟩ := List.mem_map.mp hx
          exact (all s hs).1
        rw [so, this]
        rfl
      · show (true && (decide (c.natAbs < 10 ^ 19) && ((ss.map Sc.d).all (smJ (2 * n + 2)) && true))) = true
        have : (ss.map Sc.d).all (smJ (2 * n + 2)) = true := by
          rw [List.all_eq_true]
          intro x hx
          obtain ⟨s, hs, rfl⟩ := List.mem_map.mp hx
          exact (all s hs).2.1
        rw [decide_eq_true ci, this]
        rfl
      · have w := wt_sum24 fun s hs => (all s hs).2.2
        have wc : (PyData.int c).weight ≤ 64 := by
          have := log_smallJ ci
          rw [PyData.weight]
          split <;> omega
        have e4 : (toP (.tup [.str "repeat", .int c, .lst (ss.map Sc.d)])).weight = (PyData.str "repeat").weight + 1 + ((PyData.int c).weight + 1 + (PyData.weightAll (toPA (ss.map Sc.d)) + 1 + 0)) := by
          simp only [toP, toPA, wt_tup, wt_lst, wtA_cons, wtA_nil]
        rw [e4, Sc.sz, Nat.mul_add]
        omega
theorem rpn_lst {xs : List D} {q : PyData} {P : D → Prop} (r : Rpr (.lst xs) q) (h : P (.str q.shown)) : rpN (.lst xs) P := by
  obtain ⟨r0, r1, r2, r3, r4⟩ := r
  show ob (toPy (.lst xs)) _
  rw [r0]
  exact ⟨r1, r2, r3, r4, h⟩
theorem rp_steps {nm : List Str} (no : ∀ z ∈ nm, NameOk z) (l24 : nm.length ≤ 24) {n : Nat} {ss : List Sc} (h : ∀ s ∈ ss, Rt nm s ∧ Dp n s) (hn : n ≤ 20) (hl : Sc.szs ss ≤ 1000) : ∃ u : Str, ∀ P : D → Prop, P (.str u) → rpN (.lst (ss.map Sc.d)) P := by
  have all := fun s hs => sc_small24 no l24 (h s hs).2 (h s hs).1
  obtain ⟨q, r⟩ : ∃ q, Rpr (.lst (ss.map Sc.d)) q := by
    refine rprJ (n := 2 * n + 3) (by omega) ?_ ?_ ?_
    · show (ss.map Sc.d).all (sh (2 * n + 2)) = true
      rw [List.all_eq_true]
      intro x hx
      obtain ⟨s, hs, rfl⟩ := List.mem_map.mp hx
      exact (all s hs).1
    · show (ss.map Sc.d).all (smJ (2 * n + 2)) = true
      rw [List.all_eq_true]
      intro x hx
      obtain ⟨s, hs, rfl⟩ := List.mem_map.mp hx
      exact (all s hs).2.1
    · have w := wt_sum24 fun s hs => (all s hs).2.2
      rw [toP, PyData.weight]
      omega
  exact ⟨q.shown, fun P h => rpn_lst r h⟩
end DL
namespace DL
open PySem PySem.Spec PyProof.Rows L2 RK
theorem beq_sNx (a : Str) : bEqN true (.str a) (.str a) = some (.bl false) := by simp [bEqN, eqS]
theorem pure_strs : ∀ l : List Str, D.pureL (l.map D.str) = true
  | [] => rfl
  | a :: l => by rw [List.map_cons, D.pureL, pure_strs l]; rfl
theorem fre_sc {s : Sc} (h : s.isRp = false) : freD s.d = s.d ∧ freOk s.d = true := by
  cases s with
  | mv up ns =>
    have ed : (Sc.mv up ns).d = .tup [.str (Sc.mv up ns).word, .lst (ns.map D.str)] := by cases up <;> rfl
    have hm : mvD2 (.tup [.str (Sc.mv up ns).word, .lst (ns.map D.str)]) = true := by
      rw [mvD2_eq]
      cases up
      · show (decide (("lower" : Str) ∈ (["raise", "lower"] : List Str)) && true) = true
        decide +kernel
      · show (decide (("raise" : Str) ∈ (["raise", "lower"] : List Str)) && true) = true
        decide +kernel
    rw [ed]
    refine ⟨?_, ?_⟩
    · show (if mvD2 _ = true then _ else _) = _
      rw [hm, if_pos rfl]
      rfl
    · show (if mvD2 (.tup [.str (Sc.mv up ns).word, .lst (ns.map D.str)]) = true then D.pure (.str (Sc.mv up ns).word) && D.pureL (itL (.lst (ns.map D.str))) else _) = true
      rw [hm, if_pos rfl]
      show (true && D.pureL (ns.map D.str)) = true
      rw [pure_strs]
      rfl
  | pl n r =>
    have ed : (Sc.pl n r).d = .tup [.str "place", .str n, rectD r] := by rw [Sc.d]
    rw [ed]
    exact ⟨rfl, rfl⟩
  | rp _ _ => cases h
theorem zer_sc (c : Int) (ss : List Sc) : zerB (Sc.rp c ss).d = decide (c = 0) := by
  rw [Sc.d]
  rfl
theorem fl_sc : ∀ (n : Nat) (ss : List Sc), (∀ s ∈ ss, Dp n s) → flQ (n + 1) (ss.map Sc.d) = (Sc.fls ss).map Sc.d := by
  intro n
  induction n with
  | zero =>
    intro ss h
    show (ss.map Sc.d).flatMap (flFq 0) = _
    induction ss with
    | nil => rfl
    | cons s ss ih =>
      rw [List.map_cons, List.flatMap_cons, ih fun t ht => h t (List.mem_cons_of_mem _ ht), Sc.fls, List.map_append]
      congr 1
      have hd := h s List.mem_cons_self
      have hr : s.isRp = false := by cases hd <;> rfl
      rw [flFq_eq, rep_sc, hr, if_neg Bool.false_ne_true, (fre_sc hr).1]
      cases s <;> first | rfl | cases hr
  | succ n ihn =>
    intro ss h
    show (ss.map Sc.d).flatMap (flFq (n + 1)) = _
    induction ss with
    | nil => rfl
    | cons s ss ih =>
      rw [List.map_cons, List.flatMap_cons, ih fun t ht => h t (List.mem_cons_of_mem _ ht), Sc.fls, List.map_append]
      congr 1
      have hd := h s List.mem_cons_self
      rw [flFq_eq, rep_sc]
      cases s with
      | rp c ts =>
        cases hd with
        | rp q =>
          rw [show (Sc.rp c ts).isRp = true from rfl, if_pos rfl, zer_sc, inn_sc, ihn ts q, Sc.fl]
          by_cases c0 : c = 0
          · rw [decide_eq_true c0, if_pos rfl, if_pos c0]
            rfl
          · rw [decide_eq_false c0, if_neg Bool.false_ne_true, if_neg c0]
      | mv up ns => rw [show (Sc.mv up ns).isRp = false from rfl, if_neg Bool.false_ne_true, (fre_sc rfl).1]; rfl
      | pl a r => rw [show (Sc.pl a r).isRp = false from rfl, if_neg Bool.false_ne_true, (fre_sc rfl).1]; rfl
theorem ok_sc {nm : List Str} (hn : ∀ z ∈ nm, PyData.strOk z = true) : ∀ (n : Nat) (ss : List Sc), (∀ s ∈ ss, Rt nm s ∧ Dp n s) → Sc.szs ss ≤ 400 → flOkQ (n + 1) (ss.map Sc.d) := by
  intro n
  induction n with
  | zero =>
    intro ss h hz x hx
    obtain ⟨s, hs, rfl⟩ := List.mem_map.mp hx
    have hsz := szs_mem hs
    have hd := (h s hs).2
    have hr : s.isRp = false := by cases hd <;> rfl
    have hw := wf_sc hn hd (h s hs).1 (by omega)
    exact ⟨⟨_, wf_wfW _ _ hw⟩, wf_hdl hw, fun _ => (fre_sc hr).2, fun q => by rw [rep_sc, hr] at q; cases q⟩
  | succ n ihn =>
    intro ss h hz x hx
    obtain ⟨s, hs, rfl⟩ := List.mem_map.mp hx
    have hsz := szs_mem hs
    obtain ⟨hR, hd⟩ := h s hs
    have hw := wf_sc hn hd hR (by omega)
    refine ⟨⟨_, wf_wfW _ _ hw⟩, wf_hdl hw, fun q => by rw [rep_sc] at q; exact (fre_sc q).2, fun q => ?_⟩
    rw [rep_sc] at q
    cases s with
    | rp c ts =>
      cases hd with
      | rp dq =>
        cases hR with
        | rp a1 a2 a3 a4 =>
          rw [Sc.sz] at hsz
          refine ⟨.str "repeat", c, .lst (ts.map Sc.d), by rw [Sc.d, ds_map], fun _ => ?_⟩
          rw [inn_sc]
          exact ihn ts (fun t ht => ⟨a4 t ht, dq t ht⟩) (by omega)
    | _ => cases q
theorem filter_sc (ss : List Sc) : (ss.map Sc.d).filter repB = (ss.filter Sc.isRp).map Sc.d := by
  rw [List.filter_map]
  congr 1
  exact List.filter_congr fun s _ => rep_sc s
theorem inn_nxt (ss : List Sc) : ((ss.filter Sc.isRp).map Sc.d).flatMap innB = (nxt ss).map Sc.d := by
  unfold nxt
  rw [List.flatMap_map, List.map_flatMap]
  have key : ∀ l : List Sc, (∀ s ∈ l, s.isRp = true) → l.flatMap (fun s => innB s.d) = l.flatMap fun s => s.inner.map Sc.d := fun l hl => by
    induction l with
    | nil => rfl
    | cons s l ih =>
      rw [List.flatMap_cons, List.flatMap_cons, ih fun t ht => hl t (List.mem_cons_of_mem _ ht)]
      congr 1
      have := hl s List.mem_cons_self
      cases s with
      | rp c ts => rw [inn_sc]; rfl
      | _ => cases this
  exact key _ fun s hs => (List.mem_filter.mp hs).2
theorem lvs_sc : ∀ (n : Nat) (ss : List Sc), lvs n (ss.map Sc.d) = (lev n ss).map fun l => l.map Sc.d
  | 0, _ => rfl
  | n + 1, ss => by
    rw [lvs, lev, filter_sc]
    cases h : ss.filter Sc.isRp with
    | nil => rfl
    | cons r rs =>
      rw [List.map_cons]
      show ss.map Sc.d :: lvs n ((r.d :: rs.map Sc.d).flatMap innB) = _
      rw [← List.map_cons, ← h, inn_nxt, lvs_sc n (nxt ss), h]
      rfl
theorem sz_sc {n : Nat} {ss : List Sc} (h : ∀ s ∈ ss, Dp n s) : szD n (ss.map Sc.d) = Sc.szs ss := by
  unfold szD
  rw [lvs_sc, List.map_map]
  have : (List.length ∘ fun l : List Sc => l.map Sc.d) = List.length := funext fun l => List.length_map _
  rw [this, lev_sum h]
theorem lv_len {n : Nat} {ss : List Sc} : ∀ l ∈ lvs n (ss.map Sc.d), l.length ≤ Sc.szs ss := fun l hl => by
  rw [lvs_sc] at hl
  obtain ⟨k, hk, rfl⟩ := List.mem_map.mp hl
  rw [List.length_map]
  exact lev_mem hk
def sp_size : Nat → DSp
  | 0 => fun _ _ => False
  | n + 1 => fun ds P => ∃ ss : List Sc, ds = [.lst (ss.map Sc.d)] ∧ (∀ s ∈ ss, Dp n s) ∧ Sc.szs ss ≤ 100000 ∧ P (.int (Sc.szs ss : Nat))
def d_size (sp_size : DSp) : TDS := (sRet (dO2 bAdd (dCa lenD (aCons (dV 0) aNil)) (dCa sumD (aCons (dLc (iSeq (dV 0)) (gNm 1) (dT (dO2 (bEqN false) (dO2 bIx (dV 1) (dC (.int 0))) (dC (.str "repeat")))) (dCall sp_size (aCons (dO2 bIx (dV 1) (dC (.int 2))) aNil)) [1]) aNil))))
theorem ln_size : ∀ {n : Nat} {ds : List D} {P : D → Prop}, sp_size n ds P → ds.length = 1
  | 0, _, _, h => h.elim
  | n + 1, _, _, h => by obtain ⟨_, rfl, _⟩ := h; rfl
theorem szs_rp : ∀ ss : List Sc, (ss.length : Int) + (((ss.filter Sc.isRp).map fun s => (Sc.szs s.inner : Int))).sum = (Sc.szs ss : Nat)
  | [] => rfl
  | s :: ss => by
    have ih := szs_rp ss
    rw [Sc.szs, List.length_cons]
    cases h : s.isRp with
    | true =>
      rw [List.filter_cons_of_pos h, List.map_cons, List.sum_cons]
      cases s with
      | rp c ts =>
        rw [Sc.sz]
        show ((ss.length + 1 : Nat) : Int) + ((Sc.szs ts : Int) + _) = _
        omega
      | _ => cases h
    | false =>
      rw [List.filter_cons_of_neg (by rw [h]; exact Bool.false_ne_true)]
      have e : s.sz = 1 := by cases s <;> first | rfl | cases h
      rw [e]
      omega
theorem word_rpT (s : Sc) : bEqN false (.str s.word) (.str "repeat") = some (.bl s.isRp) := by rw [bEq_s, word_rp]
theorem rd_size {n : Nat} {ds : List D} {P : D → Prop} (h : sp_size (n + 1) ds P) : d_size (sp_size n) (fin false P) (st 2 ds) := by
  obtain ⟨ss, rfl, dp, hz, q⟩ := h
  have l0 := len_szs ss
  have l1 : lenD [.lst (ss.map Sc.d)] = some (.int (ss.length : Nat)) := by
    show some (D.int ((ss.map Sc.d).length : Nat)) = _
    rw [List.length_map]
  simp only [d_size, dC, dV, dB, dO2, ob_some, dT, dAndT, dOrT, dNotT, dIf, dAndV, dOrV, dNotV, dChain, aNil, aCons, dTup, dLst, dCut, oNone, oSome, dRev, dNeg, dTru, dCa, dIs, dIsA, dCall, dCallK, sNil, sSeq, sNever, sBrk, sCont, sIf, sRet, sRetO, sRetE, sSet, sSetO, sDrop, sPar, sPar3, kn, enOf, owD, sAsg, gNm, gsNil, gsCons, gTp, sApp, sIns, sExt, sClr, sRev, sPut, sFrz, owAt, fin, st, iRng, iRngB, iSeq, lstD, tupD, sFor, dLc, dDc, wipeE, tYesD, dIndex, dSort, dDictZip, dMeth, dFld, dMk, List.map_cons, List.map_nil, List.length_cons, List.length_nil, List.replicate_succ, List.replicate_zero, List.cons_append, List.nil_append, List.append_nil, List.getElem?_cons_zero, List.getElem?_cons_succ, List.set_cons_zero, List.set_cons_succ, Option.bind_some, Option.map_some, Nat.reduceSub, Nat.reduceAdd, kwP, List.getD_cons_zero, List.getD_cons_succ, l1]
  refine .inl (comp_filter Sc.d (fun s => D.int (Sc.szs s.inner : Nat)) Sc.isRp ss [] (fun s hs Q Z h1 h0 => ?_) (by simp only [List.length_nil]; omega) ?_)
  · obtain ⟨xs, es⟩ := s.items
    have x0 : bIx s.d (.int 0) = some (.str s.word) := by rw [es]; exact bIx_tp (j := 0) rfl
    simp only [dC, dV, dB, dO2, ob_some, dT, dAndT, dOrT, dNotT, dIf, dAndV, dOrV, dNotV, dChain, aNil, aCons, dTup, dLst, dCut, oNone, oSome, dRev, dNeg, dTru, dCa, dIs, dIsA, dCall, dCallK, sNil, sSeq, sNever, sBrk, sCont, sIf, sRet, sRetO, sRetE, sSet, sSetO, sDrop, sPar, sPar3, kn, enOf, owD, sAsg, gNm, gsNil, gsCons, gTp, sApp, sIns, sExt, sClr, sRev, sPut, sFrz, owAt, fin, st, iRng, iRngB, iSeq, lstD, tupD, sFor, dLc, dDc, wipeE, tYesD, dIndex, dSort, dDictZip, dMeth, dFld, dMk, List.map_cons, List.map_nil, List.length_cons, List.length_nil, List.replicate_succ, List.replicate_zero, List.cons_append, List.nil_append, List.append_nil, List.getElem?_cons_zero, List.getElem?_cons_succ, List.set_cons_zero, List.set_cons_succ, Option.bind_some, Option.map_some, Nat.reduceSub, Nat.reduceAdd, kwP, List.getD_cons_zero, List.getD_cons_succ, x0, word_rpT]
    cases hr : s.isRp with
    | false =>
      simp only [Bool.false_eq_true, if_false]
      exact h0 hr
    | true =>
      cases s with
      | rp c ts =>
        have x2 : bIx (Sc.rp c ts).d (.int 2) = some (.lst (ts.map Sc.d)) := by rw [Sc.d, ds_map]; exact bIx_tp (j := 2) rfl
        have hd := dp _ hs
        cases hd with
        | @rp m _ _ dq =>
          have hm := szs_mem hs
          rw [Sc.sz] at hm
          simp only [x2, ob_some, if_true]
          exact ⟨ts, rfl, dq, by omega, h1 hr⟩
      | _ => cases hr
  · rw [List.nil_append]
    have e1 : sumD [.lst ((ss.filter Sc.isRp).map fun s => D.int (Sc.szs s.inner : Nat))] = some (.int (((ss.filter Sc.isRp).map fun s => (Sc.szs s.inner : Int))).sum) := by
      show (intsD _).map (fun bs => D.int bs.sum) = _
      have : (ss.filter Sc.isRp).map (fun s => D.int (Sc.szs s.inner : Nat)) = ((ss.filter Sc.isRp).map fun s => (Sc.szs s.inner : Int)).map D.int := by rw [List.map_map]; rfl
      rw [this, intsD_map]
      rfl
    rw [e1, ob_some]
    show ob (bAdd (.int _) (.int _)) P
    rw [bAdd_i, ob_some, szs_rp]
    exact q
theorem like_pl {nm : List Str} (hn : ∀ z ∈ nm, NameOk z) {n : Nat} {ss : List Sc} (h : ∀ s ∈ ss, s.isRp = false ∧ Rt nm s) (hl : ss.length ≤ 1000) : likeD (n + 3) (.lst (ss.map Sc.d)) = true := by
  show (decide ((ss.map Sc.d).length ≤ 100000) && (ss.map Sc.d).all (likeD (n + 2))) = true
  rw [List.length_map, decide_eq_true (by omega), Bool.true_and, List.all_eq_true]
  intro x hx
  obtain ⟨s, hs, rfl⟩ := List.mem_map.mp hx
  obtain ⟨hr, hR⟩ := h s hs
  cases hR with
  | @mv up ns g =>
    have ed : (Sc.mv up ns).d = .tup [.str (Sc.mv up ns).word, .lst (ns.map D.str)] := by cases up <;> rfl
    rw [ed]
    have wl : likeD (n + 1) (.str (Sc.mv up ns).word) = true := by
      cases up
      · exact (by decide +kernel : PyData.strOk "lower" = true)
      · exact (by decide +kernel : PyData.strOk "raise" = true)
    have ll : likeD (n + 1) (.lst (ns.map D.str)) = true := by
      show (decide ((ns.map D.str).length ≤ 100000) && (ns.map D.str).all (likeD n)) = true
      have := g.2.2.2
      rw [List.length_map, decide_eq_true (by omega), Bool.true_and, List.all_eq_true]
      intro y hy
      obtain ⟨z, hz, rfl⟩ := List.mem_map.mp hy
      have := name_ok (hn z (g.2.2.1 z hz))
      cases n <;> exact this
    show (decide (2 ≤ 100000) && (likeD (n + 1) _ && (likeD (n + 1) _ && true))) = true
    rw [wl, ll]
    rfl
  | @pl m r hm hg =>
    have ed : (Sc.pl m r).d = .tup [.str "place", .str m, rectD r] := by rw [Sc.d]
    rw [ed]
    have wl : likeD (n + 1) (.str "place") = true := by show PyData.strOk _ = true; decide +kernel
    have w2 : likeD (n + 1) (.str m) = true := name_ok (hn m hm)
    have ll : likeD (n + 1) (rectD r) = true := by cases n <;> rfl
    show (decide (3 ≤ 100000) && (likeD (n + 1) _ && (likeD (n + 1) _ && (likeD (n + 1) _ && true)))) = true
    rw [wl, w2, ll]
    rfl
  | rp _ _ _ _ => cases hr
structure G19 (nm : List Str) (ss : List Sc) (u : Str) : Prop where
  hn : ∀ z ∈ nm, NameOk z
  rt : ∀ s ∈ ss, Rt nm s ∧ Dp 5 s
  hz : Sc.szs ss ≤ 400
  ru : ∀ P : D → Prop, P (.str u) → rpN (.lst (ss.map Sc.d)) P
def d_scr : TDS := (sScratch 8 9 (dCall (sp_flatQ 6) (aCons (dV 4) aNil)) (dOrT (dNotT (dT (dCall (sp_like 7) (aCons (dLst (aCons (dV 8) (aCons (dCall sp_script_sizeD (aCons (dV 4) aNil)) aNil))) (aCons (dLst (aCons (dV 6) (aCons (dCall (sp_size 6) (aCons (dV 4) aNil)) aNil))) aNil))))) (dT (dO2 (bEqN true) (dReprN (dV 4)) (dV 5)))))
def d_i19 : TDS := (sIf (dOrT (dNotT (dT (dCall (sp_like 7) (aCons (dCallK (sp_flatQ 6) [0] (aCons (dCa tupleD (aCons (dV 4) aNil)) aNil)) (aCons (dV 6) aNil))))) (dT (dO2 (bEqN true) (dCallK sp_script_sizeD [0] (aCons (dCa tupleD (aCons (dV 4) aNil)) aNil)) (dCall (sp_size 6) (aCons (dV 4) aNil))))) (sRet (dC (.bl false))) sNil)
def d_q19 : TDS := (sSeq (sFor (iRng (aCons (dC (.int 2)) aNil)) (gNm 7) d_scr) d_i19)
def d_b19 : TDS := (sSeq (sSet 3 (dCall sp_names (aCons (dV 1) (aCons (dO2 bAdd (dC (.int 1)) (dCall sp_pull (aCons (dV 1) (aCons (dC (.int 4)) aNil)))) aNil)))) (sSeq (sSet 4 (dCall (sp_script 6) (aCons (dV 1) (aCons (dV 3) (aCons (dC (.int 6)) (aCons (dO2 bAdd (dC (.int 1)) (dCall sp_pull (aCons (dV 1) (aCons (dC (.int 6)) aNil)))) aNil)))))) (sSeq (sPar 5 6 false false (dReprN (dV 4)) (dCall (sp_l_flat 6) (aCons (dV 4) aNil))) d_q19)))
def d_t19 : TDS := (sSeq (sSet 10 (dLst (aCons (dTup (aCons (dC (.str "raise")) (aCons (dTup (aCons (dC (.str "a")) (aCons (dC (.str "b")) aNil))) aNil))) (aCons (dTup (aCons (dC (.str "repeat")) (aCons (dC (.int 2)) (aCons (dTup (aCons (dTup (aCons (dC (.str "lower")) (aCons (dTup (aCons (dC (.str "b")) aNil)) aNil))) aNil)) aNil)))) aNil))))
  (sRet (dAndV (dCall (sp_like 7) (aCons (dCall (sp_flatQ 6) (aCons (dV 10) aNil)) (aCons (dLst (aCons (dTup (aCons (dC (.str "raise")) (aCons (dLst (aCons (dC (.str "a")) (aCons (dC (.str "b")) aNil))) aNil))) (aCons (dTup (aCons (dC (.str "lower")) (aCons (dLst (aCons (dC (.str "b")) aNil)) aNil))) aNil))) aNil))) (dAndV (dO2 (bEqN false) (dCall (sp_flatQ 6) (aCons (dLst aNil) aNil)) (dLst aNil)) (dO2 (bEqN false) (dCall sp_script_sizeD (aCons (dLst aNil) aNil)) (dC (.int 0)))))))
def d_law : TDS := (sSeq (sFor (iRng (aCons (dC (.int 4)) aNil)) (gNm 2) d_b19) d_t19)
section
variable {nm : List Str} {ss : List Sc} {u : Str} {PP : DEnds}
theorem G19.str (G : G19 nm ss u) : ∀ z ∈ nm, PyData.strOk z = true := fun z h => name_ok (G.hn z h)
theorem G19.len (G : G19 nm ss u) : (Sc.fls ss).length ≤ 400 := Nat.le_trans (fls_len ss) G.hz
theorem G19.fl (G : G19 nm ss u) {d : D} (hd : IsSq d (ss.map Sc.d)) {P : D → Prop} (q : P (.lst ((Sc.fls ss).map Sc.d))) : sp_flatQ 6 [d] P := by
  have e := fl_sc 5 ss fun s hs => (G.rt s hs).2
  refine ⟨d, ss.map Sc.d, rfl, hd, ok_sc G.str 5 ss G.rt G.hz, ?_, ?_⟩
  · rw [e, List.length_map]
    have := G.len
    omega
  · rw [e]
    exact q
theorem G19.sz (G : G19 nm ss u) {d : D} (hd : IsSq d (ss.map Sc.d)) {P : D → Prop} (q : P (.int (Sc.szs ss : Nat))) : sp_script_sizeD [d] P := by
  have hz := G.hz
  have d12 : ∀ s ∈ ss, Dp 12 s := fun s hs => (G.rt s hs).2.up.up.up.up.up.up.up
  refine ⟨d, ss.map Sc.d, 12, rfl, hd, fun x hx => ?_, by decide, fun l hl => Nat.le_trans (lv_len l hl) (by omega), ?_⟩
  · obtain ⟨s, hs, rfl⟩ := List.mem_map.mp hx
    have := szs_mem hs
    exact wf_sc (n := 5) G.str (G.rt s hs).2 (G.rt s hs).1 (by omega)
  · rw [sz_sc d12]
    exact q
theorem G19.okI (G : G19 nm ss u) : ∀ y ∈ (Sc.fls ss).map Sc.d, okIt 100000 y := fun y hy => by
  obtain ⟨s, hs, rfl⟩ := List.mem_map.mp hy
  obtain ⟨hr, hR⟩ := plain_fls G.rt s hs
  cases hR with
  | @mv up ns g =>
    have ed : (Sc.mv up ns).d = .tup [.str (Sc.mv up ns).word, .lst (ns.map D.str)] := by cases up <;> rfl
    have := g.2.2.2
    exact ⟨_, _, ed, fun _ => ⟨ns, [], rfl, by omega⟩⟩
  | @pl m r _ _ =>
    have ed : (Sc.pl m r).d = .tup [.str "place", .str m, rectD r] := by rw [Sc.d]
    exact ⟨_, _, ed, fun h => absurd rfl h⟩
  | rp _ _ _ _ => cases hr
theorem G19.size (G : G19 nm ss u) {P : D → Prop} (q : P (.int (Sc.szs ss : Nat))) : sp_size 6 [.lst (ss.map Sc.d)] P := ⟨ss, rfl, fun s hs => (G.rt s hs).2, by have := G.hz; omega, q⟩
theorem G19.like (G : G19 nm ss u) {n : Nat} : likeD (n + 3) (.lst ((Sc.fls ss).map Sc.d)) = true := like_pl G.hn (plain_fls G.rt) (by have := G.len; omega)
theorem rd_scr (G : G19 nm ss u) {e2 e7 e8 e9 e10 : En} (hk : PP.nx [.no, .fz .bag, e2, .fz (.lst (nm.map D.str)), .fz (.lst (ss.map Sc.d)), .fz (.str u), .fz (.lst ((Sc.fls ss).map Sc.d)), e7, .no, .no, e10]) : d_scr PP [.no, .fz .bag, e2, .fz (.lst (nm.map D.str)), .fz (.lst (ss.map Sc.d)), .fz (.str u), .fz (.lst ((Sc.fls ss).map Sc.d)), e7, e8, e9, e10] := by
  refine ⟨by show (8 : Nat) < 11; decide, by show (9 : Nat) < 11; decide, by decide, ?_⟩
  simp only [dReprN, dC, dV, dB, dO2, ob_some, dT, dAndT, dOrT, dNotT, dIf, dAndV, dOrV, dNotV, dChain, aNil, aCons, dTup, dLst, dCut, oNone, oSome, dRev, dNeg, dTru, dCa, dIs, dIsA, dCall, dCallK, sNil, sSeq, sNever, sBrk, sCont, sIf, sRet, sRetO, sRetE, sSet, sSetO, sDrop, sPar, sPar3, kn, enOf, owD, sAsg, gNm, gsNil, gsCons, gTp, sApp, sIns, sExt, sClr, sRev, sPut, sFrz, owAt, fin, st, iRng, iRngB, iSeq, lstD, tupD, sFor, dLc, dDc, wipeE, tYesD, dIndex, dSort, dDictZip, dMeth, dFld, dMk, List.map_cons, List.map_nil, List.length_cons, List.length_nil, List.replicate_succ, List.replicate_zero, List.cons_append, List.nil_append, List.append_nil, List.getElem?_cons_zero, List.getElem?_cons_succ, List.set_cons_zero, List.set_cons_succ, Option.bind_some, Option.map_some, Nat.reduceSub, Nat.reduceAdd, kwP, List.getD_cons_zero, List.getD_cons_succ]
  refine G.fl (.inl rfl) ⟨⟨_, rfl, by rw [List.length_map]; have := G.len; omega, G.okI⟩, ?_⟩
  refine G.sz (.inl rfl) ⟨by decide, G.size ⟨by decide, ?_⟩⟩
  refine ⟨_, rfl, ?_, ?_⟩
  · have l6 := G.like (n := 2)
    show (decide (2 ≤ 100000) && (likeD 5 (.lst ((Sc.fls ss).map Sc.d)) && (true && true))) = true
    rw [l6]
    rfl
  · simp only [dC, dV, dB, dO2, ob_some, dT, dAndT, dOrT, dNotT, dIf, dAndV, dOrV, dNotV, dChain, aNil, aCons, dTup, dLst, dCut, oNone, oSome, dRev, dNeg, dTru, dCa, dIs, dIsA, dCall, dCallK, sNil, sSeq, sNever, sBrk, sCont, sIf, sRet, sRetO, sRetE, sSet, sSetO, sDrop, sPar, sPar3, kn, enOf, owD, sAsg, gNm, gsNil, gsCons, gTp, sApp, sIns, sExt, sClr, sRev, sPut, sFrz, owAt, fin, st, iRng, iRngB, iSeq, lstD, tupD, sFor, dLc, dDc, wipeE, tYesD, dIndex, dSort, dDictZip, dMeth, dFld, dMk, List.map_cons, List.map_nil, List.length_cons, List.length_nil, List.replicate_succ, List.replicate_zero, List.cons_append, List.nil_append, List.append_nil, List.getElem?_cons_zero, List.getElem?_cons_succ, List.set_cons_zero, List.set_cons_succ, Option.bind_some, Option.map_some, Nat.reduceSub, Nat.reduceAdd, kwP, List.getD_cons_zero, List.getD_cons_succ, Bool.not_true, Bool.false_eq_true, if_false]
    refine G.ru _ ?_
    rw [beq_sNx, ob_some]
    simp only [Bool.false_eq_true, if_false]
    exact hk
theorem rd_i19 (G : G19 nm ss u) {e2 e7 e8 e9 e10 : En} (hk : PP.nx [.no, .fz .bag, e2, .fz (.lst (nm.map D.str)), .fz (.lst (ss.map Sc.d)), .fz (.str u), .fz (.lst ((Sc.fls ss).map Sc.d)), e7, e8, e9, e10]) : d_i19 PP [.no, .fz .bag, e2, .fz (.lst (nm.map D.str)), .fz (.lst (ss.map Sc.d)), .fz (.str u), .fz (.lst ((Sc.fls ss).map Sc.d)), e7, e8, e9, e10] := by
  have t1 : tupleD [.lst (ss.map Sc.d)] = some (.tup (ss.map Sc.d)) := rfl
  unfold d_i19
  simp only [dCallK, dC, dV, dB, dO2, ob_some, dT, dAndT, dOrT, dNotT, dIf, dAndV, dOrV, dNotV, dChain, aNil, aCons, dTup, dLst, dCut, oNone, oSome, dRev, dNeg, dTru, dCa, dIs, dIsA, dCall, dCallK, sNil, sSeq, sNever, sBrk, sCont, sIf, sRet, sRetO, sRetE, sSet, sSetO, sDrop, sPar, sPar3, kn, enOf, owD, sAsg, gNm, gsNil, gsCons, gTp, sApp, sIns, sExt, sClr, sRev, sPut, sFrz, owAt, fin, st, iRng, iRngB, iSeq, lstD, tupD, sFor, dLc, dDc, wipeE, tYesD, dIndex, dSort, dDictZip, dMeth, dFld, dMk, List.map_cons, List.map_nil, List.length_cons, List.length_nil, List.replicate_succ, List.replicate_zero, List.cons_append, List.nil_append, List.append_nil, List.getElem?_cons_zero, List.getElem?_cons_succ, List.set_cons_zero, List.set_cons_succ, Option.bind_some, Option.map_some, Nat.reduceSub, Nat.reduceAdd, kwP, List.getD_cons_zero, List.getD_cons_succ, t1]
  refine ⟨trivial, G.fl (.inr rfl) ⟨_, rfl, G.like (n := 3), ?_⟩⟩
  simp only [dC, dV, dB, dO2, ob_some, dT, dAndT, dOrT, dNotT, dIf, dAndV, dOrV, dNotV, dChain, aNil, aCons, dTup, dLst, dCut, oNone, oSome, dRev, dNeg, dTru, dCa, dIs, dIsA, dCall, dCallK, sNil, sSeq, sNever, sBrk, sCont, sIf, sRet, sRetO, sRetE, sSet, sSetO, sDrop, sPar, sPar3, kn, enOf, owD, sAsg, gNm, gsNil, gsCons, gTp, sApp, sIns, sExt, sClr, sRev, sPut, sFrz, owAt, fin, st, iRng, iRngB, iSeq, lstD, tupD, sFor, dLc, dDc, wipeE, tYesD, dIndex, dSort, dDictZip, dMeth, dFld, dMk, List.map_cons, List.map_nil, List.length_cons, List.length_nil, List.replicate_succ, List.replicate_zero, List.cons_append, List.nil_append, List.append_nil, List.getElem?_cons_zero, List.getElem?_cons_succ, List.set_cons_zero, List.set_cons_succ, Option.bind_some, Option.map_some, Nat.reduceSub, Nat.reduceAdd, kwP, List.getD_cons_zero, List.getD_cons_succ, Bool.not_true, Bool.false_eq_true, if_false]
  refine ⟨trivial, G.sz (.inr rfl) (G.size ?_)⟩
  have e : bEqN true (.int (Sc.szs ss : Nat)) (.int (Sc.szs ss : Nat)) = some (.bl false) := by simp [bEqN, eqS]
  rw [e, ob_some]
  simp only [Bool.false_eq_true, if_false]
  exact hk
end
theorem rd_b19 {PP : DEnds} {e2 e3 e4 e5 e6 e7 e8 e9 e10 : En} (hk : ∀ e3 e4 e5 e6 e7 e8 e9, PP.nx [.no, .fz .bag, e2, e3, e4, e5, e6, e7, e8, e9, e10]) : d_b19 PP [.no, .fz .bag, e2, e3, e4, e5, e6, e7, e8, e9, e10] := by
  have hS := fun nm ss u G PP e7 e8 e9 hk => rd_scr (nm := nm) (ss := ss) (u := u) (PP := PP) (e2 := e2) (e7 := e7) (e8 := e8) (e9 := e9) (e10 := e10) G hk
  have hI := fun nm ss u G PP e7 e8 e9 hk => rd_i19 (nm := nm) (ss := ss) (u := u) (PP := PP) (e2 := e2) (e7 := e7) (e8 := e8) (e9 := e9) (e10 := e10) G hk
  unfold d_b19 d_q19
  generalize d_scr = SS at hS ⊢
  generalize d_i19 = II at hI ⊢
  simp only [dReprN, dC, dV, dB, dO2, ob_some, dT, dAndT, dOrT, dNotT, dIf, dAndV, dOrV, dNotV, dChain, aNil, aCons, dTup, dLst, dCut, oNone, oSome, dRev, dNeg, dTru, dCa, dIs, dIsA, dCall, dCallK, sNil, sSeq, sNever, sBrk, sCont, sIf, sRet, sRetO, sRetE, sSet, sSetO, sDrop, sPar, sPar3, kn, enOf, owD, sAsg, gNm, gsNil, gsCons, gTp, sApp, sIns, sExt, sClr, sRev, sPut, sFrz, owAt, fin, st, iRng, iRngB, iSeq, lstD, tupD, sFor, dLc, dDc, wipeE, tYesD, dIndex, dSort, dDictZip, dMeth, dFld, dMk, List.map_cons, List.map_nil, List.length_cons, List.length_nil, List.replicate_succ, List.replicate_zero, List.cons_append, List.nil_append, List.append_nil, List.getElem?_cons_zero, List.getElem?_cons_succ, List.set_cons_zero, List.set_cons_succ, Option.bind_some, Option.map_some, Nat.reduceSub, Nat.reduceAdd, kwP, List.getD_cons_zero, List.getD_cons_succ]
  refine ⟨_, rfl, by decide, by decide, fun r r0 r1 => ?_⟩
  show ob (bAdd (.int 1) (.int r)) _
  rw [bAdd_i, ob_some]
  refine ⟨1 + r, rfl, by omega, by omega, fun nm al an ad => ?_⟩
  refine ⟨_, rfl, by decide, by decide, fun k k0 k1 => ?_⟩
  show ob (bAdd (.int 1) (.int k)) _
  rw [bAdd_i, ob_some]
  have nl : nm.length ≤ 4 ∧ 1 ≤ nm.length := by omega
  have ek : (1 : Int) + k = ((k.toNat : Nat) : Int) + 1 := by omega
  rw [ek]
  refine ⟨nm, 6, k.toNat, rfl, by decide, by decide, by show k.toNat ≤ 5; omega, by omega, fun z => by rw [z] at nl; simp at nl, ad, by omega, fun ss hs hz => ?_⟩
  have up : ∀ {n : Nat} {s : Sc}, n ≤ 5 → Dp n s → Dp 5 s := fun {n s} h d => by
    match n, h, d with
    | 0, _, d => exact d.up.up.up.up.up
    | 1, _, d => exact d.up.up.up.up
    | 2, _, d => exact d.up.up.up
    | 3, _, d => exact d.up.up
    | 4, _, d => exact d.up
    | 5, _, d => exact d
  have S5 : Sz k.toNat ≤ 16 := by
    have : k.toNat ≤ 5 := by omega
    generalize k.toNat = m at this
    match m, this with
    | 0, _ => decide
    | 1, _ => decide
    | 2, _ => decide
    | 3, _ => decide
    | 4, _ => decide
    | 5, _ => decide
  have hz2 : Sc.szs ss ≤ 400 := by
    have e6 : (6 : Int).toNat = 6 := rfl
    rw [e6] at hz
    omega
  have rt : ∀ s ∈ ss, Rt nm s ∧ Dp 5 s := fun s h => ⟨(hs s h).1, up (by omega) (hs s h).2⟩
  obtain ⟨u, ru⟩ := rp_steps an (by omega) rt (by decide) (by omega)
  have G : G19 nm ss u := ⟨an, rt, hz2, ru⟩
  refine ru _ ⟨ss, rfl, fun s h => (rt s h).2, fun s h => ⟨nm, (rt s h).1⟩, by omega, ?_⟩
  simp only [dC, dV, dB, dO2, ob_some, dT, dAndT, dOrT, dNotT, dIf, dAndV, dOrV, dNotV, dChain, aNil, aCons, dTup, dLst, dCut, oNone, oSome, dRev, dNeg, dTru, dCa, dIs, dIsA, dCall, dCallK, sNil, sSeq, sNever, sBrk, sCont, sIf, sRet, sRetO, sRetE, sSet, sSetO, sDrop, sPar, sPar3, kn, enOf, owD, sAsg, gNm, gsNil, gsCons, gTp, sApp, sIns, sExt, sClr, sRev, sPut, sFrz, owAt, fin, st, iRng, iRngB, iSeq, lstD, tupD, sFor, dLc, dDc, wipeE, tYesD, dIndex, dSort, dDictZip, dMeth, dFld, dMk, List.map_cons, List.map_nil, List.length_cons, List.length_nil, List.replicate_succ, List.replicate_zero, List.cons_append, List.nil_append, List.append_nil, List.getElem?_cons_zero, List.getElem?_cons_succ, List.set_cons_zero, List.set_cons_succ, Option.bind_some, Option.map_some, Nat.reduceSub, Nat.reduceAdd, kwP, List.getD_cons_zero, List.getD_cons_succ]
  refine ⟨by decide, by decide, ?_⟩
  refine loop_rng (fun _ env => ∃ e7 e8 e9, env = [.no, .fz .bag, e2, .fz (.lst (nm.map D.str)), .fz (.lst (ss.map Sc.d)), .fz (.str u), .fz (.lst ((Sc.fls ss).map Sc.d)), e7, e8, e9, e10]) ⟨_, _, _, rfl⟩ (fun i env _ h k hk2 => ?_) (fun env h => ?_)
  · obtain ⟨e7, e8, e9, rfl⟩ := h
    exact hS nm ss u G _ _ _ _ (hk2 _ ⟨_, _, _, rfl⟩)
  · obtain ⟨e7, e8, e9, rfl⟩ := h
    exact hI nm ss u G _ _ _ _ (hk _ _ _ _ _ _ _)
def t1D : D := .tup [.str "raise", .tup [.str "a", .str "b"]]
def t3D : D := .tup [.str "lower", .tup [.str "b"]]
def t2D : D := .tup [.str "repeat", .int 2, .tup [t3D]]
theorem tupsQ : flQ 6 [t1D, t2D] = [.tup [.str "raise", .lst [.str "a", .str "b"]], .tup [.str "lower", .lst [.str "b"]]] := by
  have r1 : repB t1D = false := by decide +kernel
  have r2 : repB t2D = true := by decide +kernel
  have r3 : repB t3D = false := by decide +kernel
  have z2 : zerB t2D = false := by decide +kernel
  have h2 : hasB t2D = true := by decide +kernel
  have m1 : mvD2 (.tup [.str "raise", .tup [.str "a", .str "b"]]) = true := by decide +kernel
  have m3 : mvD2 (.tup [.str "lower", .tup [.str "b"]]) = true := by decide +kernel
  have i2 : innB t2D = [t3D] := by
    unfold innB
    rw [h2, if_pos rfl]
    rfl
  have f1 : freD t1D = .tup [.str "raise", .lst [.str "a", .str "b"]] := by
    have e : freD (.tup [.str "raise", .tup [.str "a", .str "b"]]) = if mvD2 (.tup [.str "raise", .tup [.str "a", .str "b"]]) = true then .tup [.str "raise", .lst [.str "a", .str "b"]] else .tup [.str "raise", .tup [.str "a", .str "b"]] := rfl
    rw [m1, if_pos rfl] at e
    exact e
  have f3 : freD t3D = .tup [.str "lower", .lst [.str "b"]] := by
    have e : freD (.tup [.str "lower", .tup [.str "b"]]) = if mvD2 (.tup [.str "lower", .tup [.str "b"]]) = true then .tup [.str "lower", .lst [.str "b"]] else .tup [.str "lower", .tup [.str "b"]] := rfl
    rw [m3, if_pos rfl] at e
    exact e
  show flFq 5 t1D ++ (flFq 5 t2D ++ []) = _
  rw [flFq_eq, flFq_eq, r1, r2, z2, i2]
  show [freD t1D] ++ ((flFq 4 t3D ++ []) ++ []) = _
  rw [flFq_eq, r3, f1]
  show _ ++ (([freD t3D] ++ []) ++ []) = _
  rw [f3]
  rfl
theorem tups_ok : flOkQ 6 [t1D, t2D] := fun x hx => by
  simp only [List.mem_cons, List.not_mem_nil, or_false] at hx
  rcases hx with rfl | rfl
  · exact ⟨⟨4, by decide +kernel⟩, rfl, fun _ => by decide +kernel, fun h => absurd h (by decide +kernel)⟩
  · refine ⟨⟨4, by decide +kernel⟩, rfl, fun h => absurd h (by decide +kernel), fun _ => ⟨_, 2, _, rfl, fun _ => ?_⟩⟩
    have h2 : hasB t2D = true := by decide +kernel
    have i2 : innB t2D = [t3D] := by
      unfold innB
      rw [h2, if_pos rfl]
      rfl
    show flOkQ 5 (innB t2D)
    rw [i2]
    intro x hx
    rw [List.mem_singleton] at hx
    subst hx
    exact ⟨⟨4, by decide +kernel⟩, rfl, fun _ => by decide +kernel, fun h => absurd h (by decide +kernel)⟩
theorem rd_t19 {PP : DEnds} {e0 e1 e2 e3 e4 e5 e6 e7 e8 e9 e10 : En} (hk : PP.rt (.bl true)) : d_t19 PP [e0, e1, e2, e3, e4, e5, e6, e7, e8, e9, e10] := by
  have lk6 : likeD 6 (.lst [.tup [.str "raise", .lst [.str "a", .str "b"]], .tup [.str "lower", .lst [.str "b"]]]) = true := by decide +kernel
  simp only [d_t19, dC, dV, dB, dO2, ob_some, dT, dAndT, dOrT, dNotT, dIf, dAndV, dOrV, dNotV, dChain, aNil, aCons, dTup, dLst, dCut, oNone, oSome, dRev, dNeg, dTru, dCa, dIs, dIsA, dCall, dCallK, sNil, sSeq, sNever, sBrk, sCont, sIf, sRet, sRetO, sRetE, sSet, sSetO, sDrop, sPar, sPar3, kn, enOf, owD, sAsg, gNm, gsNil, gsCons, gTp, sApp, sIns, sExt, sClr, sRev, sPut, sFrz, owAt, fin, st, iRng, iRngB, iSeq, lstD, tupD, sFor, dLc, dDc, wipeE, tYesD, dIndex, dSort, dDictZip, dMeth, dFld, dMk, List.map_cons, List.map_nil, List.length_cons, List.length_nil, List.replicate_succ, List.replicate_zero, List.cons_append, List.nil_append, List.append_nil, List.getElem?_cons_zero, List.getElem?_cons_succ, List.set_cons_zero, List.set_cons_succ, Option.bind_some, Option.map_some, Nat.reduceSub, Nat.reduceAdd, kwP, List.getD_cons_zero, List.getD_cons_succ]
  have s1 : 1 ≤ sizeLine := by decide
  have s2 : 2 ≤ sizeLine := by decide
  have s3 : 3 ≤ sizeLine := by decide
  refine ⟨s2, s2, s1, s2, s1, s3, s2, .lst [t1D, t2D], [t1D, t2D], rfl, .inl rfl, tups_ok, by rw [tupsQ]; decide, ?_⟩
  rw [tupsQ]
  refine ⟨s2, s2, s1, s2, s2, _, rfl, lk6, ?_⟩
  simp only [if_true]
  have q0 : flQ 6 [] = [] := rfl
  refine ⟨Nat.zero_le _, .lst [], [], rfl, .inl rfl, fun x hx => (by cases hx), by rw [q0]; decide, ?_⟩
  rw [q0]
  have e0 : bEqN false (.lst []) (.lst []) = some (.bl true) := rfl
  refine ⟨Nat.zero_le _, ?_⟩
  show ob (bEqN false (.lst []) (.lst [])) _
  rw [e0, ob_some]
  simp only [if_true]
  refine ⟨Nat.zero_le _, .lst [], [], 0, rfl, .inl rfl, fun s hs => (by cases hs), by decide, fun l hl => ?_, ?_⟩
  · have : l = [] := List.mem_singleton.mp hl
    rw [this]
    exact Nat.zero_le _
  · exact hk
theorem rd_law : d_law { nx := fun _ => False, rt := fun x => x = .bl true } (.no :: .fz .bag :: List.replicate 9 .no) := by
  have hB := fun PP e2 e3 e4 e5 e6 e7 e8 e9 e10 hk => rd_b19 (PP := PP) (e2 := e2) (e3 := e3) (e4 := e4) (e5 := e5) (e6 := e6) (e7 := e7) (e8 := e8) (e9 := e9) (e10 := e10) hk
  have hT := fun (PP : DEnds) e0 e1 e2 e3 e4 e5 e6 e7 e8 e9 e10 hk => rd_t19 (PP := PP) (e0 := e0) (e1 := e1) (e2 := e2) (e3 := e3) (e4 := e4) (e5 := e5) (e6 := e6) (e7 := e7) (e8 := e8) (e9 := e9) (e10 := e10) hk
  unfold d_law
  generalize d_b19 = BB at hB ⊢
  generalize d_t19 = TT at hT ⊢
  simp only [dC, dV, dB, dO2, ob_some, dT, dAndT, dOrT, dNotT, dIf, dAndV, dOrV, dNotV, dChain, aNil, aCons, dTup, dLst, dCut, oNone, oSome, dRev, dNeg, dTru, dCa, dIs, dIsA, dCall, dCallK, sNil, sSeq, sNever, sBrk, sCont, sIf, sRet, sRetO, sRetE, sSet, sSetO, sDrop, sPar, sPar3, kn, enOf, owD, sAsg, gNm, gsNil, gsCons, gTp, sApp, sIns, sExt, sClr, sRev, sPut, sFrz, owAt, fin, st, iRng, iRngB, iSeq, lstD, tupD, sFor, dLc, dDc, wipeE, tYesD, dIndex, dSort, dDictZip, dMeth, dFld, dMk, List.map_cons, List.map_nil, List.length_cons, List.length_nil, List.replicate_succ, List.replicate_zero, List.cons_append, List.nil_append, List.append_nil, List.getElem?_cons_zero, List.getElem?_cons_succ, List.set_cons_zero, List.set_cons_succ, Option.bind_some, Option.map_some, Nat.reduceSub, Nat.reduceAdd, kwP, List.getD_cons_zero, List.getD_cons_succ]
  refine ⟨by decide, by decide, ?_⟩
  refine loop_rng (fun _ env => ∃ e2 e3 e4 e5 e6 e7 e8 e9 e10, env = [.no, .fz .bag, e2, e3, e4, e5, e6, e7, e8, e9, e10]) ⟨_, _, _, _, _, _, _, _, _, rfl⟩ (fun turn env _ h k hk => ?_) (fun env h => ?_)
  · obtain ⟨e2, e3, e4, e5, e6, e7, e8, e9, e10, rfl⟩ := h
    exact hB _ _ _ _ _ _ _ _ _ _ fun e3 e4 e5 e6 e7 e8 e9 => hk _ ⟨_, _, _, _, _, _, _, _, _, rfl⟩
  · obtain ⟨e2, e3, e4, e5, e6, e7, e8, e9, e10, rfl⟩ := h
    exact hT _ _ _ _ _ _ _ _ _ _ _ _ rfl
end DL
namespace RK
open PySem PySem.Spec PyProof.Rows L2 DL
theorem sc_is_list : FnScope ["value"] ["value"] (defScope s_is_list) := ⟨rfl, rfl, rfl, by decide +kernel, rfl, by decide +kernel, by decide +kernel⟩
theorem sc_begins_with : FnScope ["step", "words"] ["step", "words"] (defScope s_begins_with) := ⟨rfl, rfl, rfl, by decide +kernel, rfl, by decide +kernel, by decide +kernel⟩
theorem sc_is_repeat : FnScope ["step"] ["step"] (defScope s_is_repeat) := ⟨rfl, rfl, rfl, by decide +kernel, rfl, by decide +kernel, by decide +kernel⟩
theorem sc_has_nested_script : FnScope ["step", "item"] ["step"] (defScope s_has_nested_script) := ⟨rfl, rfl, rfl, by decide +kernel, rfl, by decide +kernel, by decide +kernel⟩
theorem sc_inner_steps : FnScope ["step"] ["step"] (defScope s_inner_steps) := ⟨rfl, rfl, rfl, by decide +kernel, rfl, by decide +kernel, by decide +kernel⟩
theorem sc_levels : FnScope ["steps", "found", "repeats", "step", "inner"] ["steps"] (defScope s_levels) := ⟨rfl, rfl, rfl, by decide +kernel, rfl, by decide +kernel, by decide +kernel⟩
theorem sc_script_size : FnScope ["steps", "level"] ["steps"] (defScope s_script_size) := ⟨rfl, rfl, rfl, by decide +kernel, rfl, by decide +kernel, by decide +kernel⟩
theorem sc_fresh_step : FnScope ["step"] ["step"] (defScope s_fresh_step) := ⟨rfl, rfl, rfl, by decide +kernel, rfl, by decide +kernel, by decide +kernel⟩
theorem sc_flat : FnScope ["steps", "found", "step"] ["steps"] (defScope s_flat) := ⟨rfl, rfl, rfl, by decide +kernel, rfl, by decide +kernel, by decide +kernel⟩
theorem sc_bag : FnScope ["_law_script_here", "_law_salt", "_law_cell"] ["_law_script_here"] (defScope s_bag) := ⟨rfl, rfl, rfl, by decide +kernel, rfl, by decide +kernel, by decide +kernel⟩
theorem sc_pull : FnScope ["_law_bag_here", "_law_amount", "_law_cell", "_law_got", "_law_seed"] ["_law_bag_here", "_law_amount"] (defScope s_pull) := ⟨rfl, rfl, rfl, by decide +kernel, rfl, by decide +kernel, by decide +kernel⟩
theorem sc_of : FnScope ["_law_bag_here", "_law_things"] ["_law_bag_here", "_law_things"] (defScope s_of) := ⟨rfl, rfl, rfl, by decide +kernel, rfl, by decide +kernel, by decide +kernel⟩
theorem sc_like : FnScope ["_law_found", "_law_due", "_law_k"] ["_law_found", "_law_due"] (defScope s_like) := ⟨rfl, rfl, rfl, by decide +kernel, rfl, by decide +kernel, by decide +kernel⟩
theorem sc_mixed : FnScope ["_law_bag_here", "_law_things", "_law_found", "_law_thing"] ["_law_bag_here", "_law_things"] (defScope s_mixed) := ⟨rfl, rfl, rfl, by decide +kernel, rfl, by decide +kernel, by decide +kernel⟩
theorem sc_some : FnScope ["_law_bag_here", "_law_things", "_law_mixed_here"] ["_law_bag_here", "_law_things"] (defScope s_some) := ⟨rfl, rfl, rfl, by decide +kernel, rfl, by decide +kernel, by decide +kernel⟩
theorem sc_names : FnScope ["_law_bag_here", "_law_count", "_law_letters", "_law_base", "_law_k", "_law_spot", "_law_first", "_law_step_here"] ["_law_bag_here", "_law_count"] (defScope s_names) := ⟨rfl, rfl, rfl, by decide +kernel, rfl, by decide +kernel, by decide +kernel⟩
theorem sc_rectangle : FnScope ["_law_bag_here", "_law_scale", "_law_left", "_law_top", "_law_right", "_law_bottom"] ["_law_bag_here", "_law_scale"] (defScope s_rectangle) := ⟨rfl, rfl, rfl, by decide +kernel, rfl, by decide +kernel, by decide +kernel⟩
theorem sc_moving : FnScope ["_law_bag_here", "_law_names_here", "_law_some_here"] ["_law_bag_here", "_law_names_here"] (defScope s_moving) := ⟨rfl, rfl, rfl, by decide +kernel, rfl, by decide +kernel, by decide +kernel⟩
theorem sc_step : FnScope ["_law_bag_here", "_law_names_here"] ["_law_bag_here", "_law_names_here"] (defScope s_step) := ⟨rfl, rfl, rfl, by decide +kernel, rfl, by decide +kernel, by decide +kernel⟩
theorem sc_script : FnScope ["_law_bag_here", "_law_names_here", "_law_most", "_law_deep", "_law_found", "_law_k", "_law_count"] ["_law_bag_here", "_law_names_here", "_law_most", "_law_deep"] (defScope s_script) := ⟨rfl, rfl, rfl, by decide +kernel, rfl, by decide +kernel, by decide +kernel⟩
theorem sc_l_flat : FnScope ["_law_script_here", "_law_found", "_law_step_here"] ["_law_script_here"] (defScope s_l_flat) := ⟨rfl, rfl, rfl, by decide +kernel, rfl, by decide +kernel, by decide +kernel⟩
theorem sc_size : FnScope ["_law_script_here", "_law_step_here"] ["_law_script_here"] (defScope s_size) := ⟨rfl, rfl, rfl, by decide +kernel, rfl, by decide +kernel, by decide +kernel⟩
theorem sc_law : FnScope ["_law_script_here", "_law_bag_here", "_law_turn", "_law_names_here", "_law_steps_z", "_law_shown", "_law_due", "_law_again", "_law_found", "_law_step_here", "_law_tuples"] ["_law_script_here"] (defScope s_law) := ⟨rfl, rfl, rfl, by decide +kernel, rfl, by decide +kernel, by decide +kernel⟩
def kwG_kb_script_size_0_steps {α : Type} : List α → List α → List α
  | [], [c0] => [c0]
  | _, _ => []
def kwG_kb_flat_0_steps {α : Type} : List α → List α → List α
  | [], [c0] => [c0]
  | _, _ => []
structure FT (K : PySem.W.Frag) (mg : Str → Option Value) (nm qn : Str) (s0 : Stmt) (ps : List Str) where
  f : Addr
  fd : FuncData
  F : Fun K nm qn s0 f fd
  g : mg nm = some (.ref f)
  b : L2.Binds K fd ps []
structure MT (K : PySem.W.Frag) (C : Addr) (nm qn : Str) (s0 : Stmt) (ps : List Str) where
  f : Addr
  fd : FuncData
  F : Fun K nm qn s0 f fd
  b : L2.Binds K fd ps []
  s : PySem.W.findIn K (.ref C) nm = some (some (.ref f))
  i : PySem.W.isFn K (.ref f) = true
  M : Meth K C nm f
theorem kb_of {K : PySem.W.Frag} {nm qn : Str} {s0 : Stmt} {f : Addr} {fd : FuncData} {ps ks : List Str} {g : List Value → List Value → List Value} {gV : List V → List V → List V} (F : Fun K nm qn s0 f fd) (b : ∀ (kV doc pm : Value) (an : Option Addr) (cdv ct : Value), KBinds K (PySem.W.fnOf nm qn (defArgs s0) (defBody s0) (defScope s0) .none kV doc pm an cdv ct) ps ks g gV) : KBinds K fd ps ks g gV := by
  obtain ⟨oc, od, kV, doc, pm, an, cdv, ct, osl, e, l, c⟩ := F.ex
  rw [e]
  exact b kV doc pm an cdv ct
structure Txt (K : PySem.W.Frag) (mg : Str → Option Value) where
  p_is_list : FT K mg "is_list" "is_list" s_is_list ["value"]
  p_begins_with : FT K mg "begins_with" "begins_with" s_begins_with ["step", "words"]
  p_is_repeat : FT K mg "is_repeat" "is_repeat" s_is_repeat ["step"]
  p_has_nested_script : FT K mg "has_nested_script" "has_nested_script" s_has_nested_script ["step"]
  p_inner_steps : FT K mg "inner_steps" "inner_steps" s_inner_steps ["step"]
  p_levels : FT K mg "levels" "levels" s_levels ["steps"]
  p_script_size : FT K mg "script_size" "script_size" s_script_size ["steps"]
  p_fresh_step : FT K mg "fresh_step" "fresh_step" s_fresh_step ["step"]
  p_flat : FT K mg "flat" "flat" s_flat ["steps"]
  p_bag : FT K mg "_law_bag" "_law_bag" s_bag ["_law_script_here"]
  p_pull : FT K mg "_law_pull" "_law_pull" s_pull ["_law_bag_here", "_law_amount"]
  p_of : FT K mg "_law_of" "_law_of" s_of ["_law_bag_here", "_law_things"]
  p_like : FT K mg "_law_like" "_law_like" s_like ["_law_found", "_law_due"]
  p_mixed : FT K mg "_law_mixed" "_law_mixed" s_mixed ["_law_bag_here", "_law_things"]
  p_some : FT K mg "_law_some" "_law_some" s_some ["_law_bag_here", "_law_things"]
  p_names : FT K mg "_law_names" "_law_names" s_names ["_law_bag_here", "_law_count"]
  p_rectangle : FT K mg "_law_rectangle" "_law_rectangle" s_rectangle ["_law_bag_here", "_law_scale"]
  p_moving : FT K mg "_law_moving" "_law_moving" s_moving ["_law_bag_here", "_law_names_here"]
  p_step : FT K mg "_law_step" "_law_step" s_step ["_law_bag_here", "_law_names_here"]
  p_script : FT K mg "_law_script" "_law_script" s_script ["_law_bag_here", "_law_names_here", "_law_most", "_law_deep"]
  p_l_flat : FT K mg "_law_flat" "_law_flat" s_l_flat ["_law_script_here"]
  p_size : FT K mg "_law_size" "_law_size" s_size ["_law_script_here"]
  f_law : Addr
  fd_law : FuncData
  F_law : Fun K "law" "law" s_law f_law fd_law
  g_law : mg "law" = some (.ref f_law)
  b_law : Binds K fd_law ["_law_script_here"] []
  kb_script_size_0_steps : KBinds K p_script_size.fd ["steps"] ["steps"] (kwG_kb_script_size_0_steps (α := Value)) (kwG_kb_script_size_0_steps (α := V))
  kb_flat_0_steps : KBinds K p_flat.fd ["steps"] ["steps"] (kwG_kb_flat_0_steps (α := Value)) (kwG_kb_flat_0_steps (α := V))
  a_MOVES : Addr
  c_MOVES : mg "MOVES" = some (.ref a_MOVES)
  k_MOVES : ∀ N W H, DL.Dd K N W H (.ref a_MOVES) (.ktp [.str "raise", .str "lower"])
  m_all : mg "all" = none
  m_bool : mg "bool" = none
  m_isinstance : mg "isinstance" = none
  m_len : mg "len" = none
  m_list : mg "list" = none
  m_min : mg "min" = none
  m_range : mg "range" = none
  m_repr : mg "repr" = none
  m_sum : mg "sum" = none
  m_tuple : mg "tuple" = none
theorem kd_kb_script_size_0_steps {K : PySem.W.Frag} {N : Addr → Prop} {W : Wd} {H : Hp} {zs : List V} {es : List D} (h : DdAll K N W H zs es) (hl : es.length = 1) : DdAll K N W H (kwG_kb_script_size_0_steps [] zs) (kwP [0] es) := by
  cases h with
  | nil => simp at hl
  | cons h0 h =>
    cases h with
    | cons _ _ => simp at hl
    | nil => exact (.cons h0 .nil)
theorem kd_kb_flat_0_steps {K : PySem.W.Frag} {N : Addr → Prop} {W : Wd} {H : Hp} {zs : List V} {es : List D} (h : DdAll K N W H zs es) (hl : es.length = 1) : DdAll K N W H (kwG_kb_flat_0_steps [] zs) (kwP [0] es) := by
  cases h with
  | nil => simp at hl
  | cons h0 h =>
    cases h with
    | cons _ _ => simp at hl
    | nil => exact (.cons h0 .nil)
section
variable {P : Program} {w : World} {K : PySem.W.Frag} {mg : Str → Option Value} {base : Heap}
theorem ok_is_list (T : Txt K mg) {k : Nat} : FnOk P w K mg base CX0 (k + 1) T.p_is_list.f T.p_is_list.fd ["value"] (lSp K false sp_is_listW) := by
  refine T.p_is_list.F.ok sc_is_list (fun vs H Q E h => ?_) (fun cdv A outer s H vs Q E hr h => ?_)
  · obtain ⟨W, N0, ds, Pd, _, _, _, dd, sp, _⟩ := h
    rw [dd.len]
    exact ln_is_listW sp
  · obtain ⟨W, N0, ds, Pd, al, wn, ok, dd, sp, q⟩ := h
    have tm : PSs (cxOf CX0 P w K mg base ["value"] "is_list" (defScope s_is_list) T.p_is_list.f cdv A outer s H E).nox (defBody s_is_list) (lS ⟨K, W, N0, H, false⟩ (d_is_listW)) := ((ss_one (ds_ret (by rfl) (dd_isiT (by rfl) T.m_isinstance (c_b (dd_v (pv 0))) (pe_bltn (v := .ty "list") (by rfl) T.m_list (by decide +kernel) rfl) (pe_bltn (v := .ty "tuple") (by rfl) T.m_tuple (by decide +kernel) rfl)))))
    exact ⟨_, tm, fn_d al wn ok dd q (rd_is_listW sp)⟩
theorem ok_begins_with (T : Txt K mg) {k : Nat} : FnOk P w K mg base CX0 (k + 1) T.p_begins_with.f T.p_begins_with.fd ["step", "words"] (lSp K false sp_begins_withW) := by
  refine T.p_begins_with.F.ok sc_begins_with (fun vs H Q E h => ?_) (fun cdv A outer s H vs Q E hr h => ?_)
  · obtain ⟨W, N0, ds, Pd, _, _, _, dd, sp, _⟩ := h
    rw [dd.len]
    exact ln_begins_withW sp
  · obtain ⟨W, N0, ds, Pd, al, wn, ok, dd, sp, q⟩ := h
    have tm : PSs (cxOf CX0 P w K mg base ["step", "words"] "begins_with" (defScope s_begins_with) T.p_begins_with.f cdv A outer s H E).nox (defBody s_begins_with) (lS ⟨K, W, N0, H, false⟩ (d_begins_withW)) := ((ss_one (ds_ret (by rfl) (dd_and (dd_isi (by rfl) T.m_isinstance (c_b (dd_v (pv 0))) (pe_bltn (v := .ty "tuple") (by rfl) T.m_tuple (by decide +kernel) rfl)) (dd_and (dd_gt (c_b (dd_len (by rfl) T.m_len (c_b (dd_v (pv 0))))) (c_b dd_int)) (dd_one (dd_in hr (c_b (dd_ix hr (c_b (dd_v (pv 0))) (c_b dd_int))) (c_b (dd_v (pv 1))))))))))
    exact ⟨_, tm, fn_d al wn ok dd q (rd_begins_withW sp)⟩
theorem ok_is_repeat (T : Txt K mg) {k : Nat} : FnOk P w K mg base CX0 (k + 2) T.p_is_repeat.f T.p_is_repeat.fd ["step"] (lSp K false sp_is_repeatW) := by
  refine T.p_is_repeat.F.ok sc_is_repeat (fun vs H Q E h => ?_) (fun cdv A outer s H vs Q E hr h => ?_)
  · obtain ⟨W, N0, ds, Pd, _, _, _, dd, sp, _⟩ := h
    rw [dd.len]
    exact ln_is_repeatW sp
  · obtain ⟨W, N0, ds, Pd, al, wn, ok, dd, sp, q⟩ := h
    have tm : PSs (cxOf CX0 P w K mg base ["step"] "is_repeat" (defScope s_is_repeat) T.p_is_repeat.f cdv A outer s H E).nox (defBody s_is_repeat) (lS ⟨K, W, N0, H, false⟩ (d_is_repeatW)) := ((ss_one (ds_ret (by rfl) (dd_call (ok_begins_with T) hr (by rfl) T.p_begins_with.g T.p_begins_with.F.kp T.p_begins_with.b pass0 (da_cons (dd_v (pv 0)) (da_cons (n_c (dn_tup (da_cons dd_str da_nil))) da_nil))))))
    exact ⟨_, tm, fn_d al wn ok dd q (rd_is_repeatW sp)⟩
theorem ok_has_nested_script (T : Txt K mg) {k : Nat} : FnOk P w K mg base CX0 (k + 2) T.p_has_nested_script.f T.p_has_nested_script.fd ["step"] (lSp K false sp_has_nested_scriptW) := by
  refine T.p_has_nested_script.F.ok sc_has_nested_script (fun vs H Q E h => ?_) (fun cdv A outer s H vs Q E hr h => ?_)
  · obtain ⟨W, N0, ds, Pd, _, _, _, dd, sp, _⟩ := h
    rw [dd.len]
    exact ln_has_nested_scriptW sp
  · obtain ⟨W, N0, ds, Pd, al, wn, ok, dd, sp, q⟩ := h
    have tm : PSs (cxOf CX0 P w K mg base ["step", "item"] "has_nested_script" (defScope s_has_nested_script) T.p_has_nested_script.f cdv A outer s H E).nox (defBody s_has_nested_script) (lS ⟨K, W, N0, H, false⟩ (d_has_nested_scriptW)) := ((ss_cons (ds_if (PW.pt (wt_or (dt_ne hr (c_b (dd_len (by rfl) T.m_len (c_b (dd_v (pv 0))))) (c_b dd_int)) (wt_or1 (dt_not (dt_val (dd_call (ok_is_list T) hr (by rfl) T.p_is_list.g T.p_is_list.F.kp T.p_is_list.b pass0 (da_cons (dd_ix hr (c_b (dd_v (pv 0))) (c_b dd_int)) da_nil))))))) (ss_one (ds_ret (by rfl) dd_bl)) ss_nil)
      (ss_one (ds_ret (by rfl) (dd_all (by rfl) T.m_all (c_b (n_c (PE.mono (pe_lc (own := [("item", 1)]) (by rfl) sc_has_nested_script.nd (db_seq (c_b (dd_ix hr (c_b (dd_v (pv 0))) (c_b dd_int)))) (blkOk_by (own := [("item", 1)]) (N := ["step", "item"]) (sc := defScope s_has_nested_script) (by decide +kernel)) (fun _ _ _ _ _ => (dg_name (i := 1) sc_has_nested_script.nd rfl (Or.inl rfl))) (fun _ _ _ _ _ => ts_nil) (fun _ _ _ _ _ => (dd_and (dd_isi (by rfl) T.m_isinstance (c_b (dd_v (pv 1))) (pe_bltn (v := .ty "tuple") (by rfl) T.m_tuple (by decide +kernel) rfl)) (dd_one (dd_gt (c_b (dd_len (by rfl) T.m_len (c_b (dd_v (pv 1))))) (c_b dd_int)))))) (l_lc (by simp))))))))))
    exact ⟨_, tm, fn_d al wn ok dd q (rd_has_nested_scriptW sp)⟩
theorem ok_inner_steps (T : Txt K mg) {k : Nat} : FnOk P w K mg base CX0 (k + 3) T.p_inner_steps.f T.p_inner_steps.fd ["step"] (lSp K false sp_inner_stepsW) := by
  refine T.p_inner_steps.F.ok sc_inner_steps (fun vs H Q E h => ?_) (fun cdv A outer s H vs Q E hr h => ?_)
  · obtain ⟨W, N0, ds, Pd, _, _, _, dd, sp, _⟩ := h
    rw [dd.len]
    exact ln_inner_stepsW sp
  · obtain ⟨W, N0, ds, Pd, al, wn, ok, dd, sp, q⟩ := h
    have tm : PSs (cxOf CX0 P w K mg base ["step"] "inner_steps" (defScope s_inner_steps) T.p_inner_steps.f cdv A outer s H E).nox (defBody s_inner_steps) (lS ⟨K, W, N0, H, false⟩ (d_inner_stepsW)) := ((ss_one (ds_ret (by rfl) (dd_if (dt_val (dd_call (ok_has_nested_script T) hr (by rfl) T.p_has_nested_script.g T.p_has_nested_script.F.kp T.p_has_nested_script.b pass0 (da_cons (dd_v (pv 0)) da_nil))) (n_c (dn_list (by rfl) T.m_list (c_b (dd_ix hr (c_b (dd_v (pv 0))) (c_b dd_int))))) (n_c (dn_lst da_nil))))))
    exact ⟨_, tm, fn_d al wn ok dd q (rd_inner_stepsW sp)⟩
theorem ok_levels (T : Txt K mg) {k : Nat} : FnOk P w K mg base CX0 (k + 4) T.p_levels.f T.p_levels.fd ["steps"] (lSp K true sp_levelsD) := by
  refine T.p_levels.F.ok sc_levels (fun vs H Q E h => ?_) (fun cdv A outer s H vs Q E hr h => ?_)
  · obtain ⟨W, N0, ds, Pd, _, _, _, dd, sp, _⟩ := h
    rw [dd.len]
    exact ln_levelsD sp
  · obtain ⟨W, N0, ds, Pd, al, wn, ok, dd, sp, q⟩ := h
    have tm : PSs (cxOf CX0 P w K mg base ["steps", "found", "repeats", "step", "inner"] "levels" (defScope s_levels) T.p_levels.f cdv A outer s H E).nox (defBody s_levels) (lS ⟨K, W, N0, H, true⟩ (d_levelsD)) := ((ss_cons (ds_setO (i := 1) sc_levels.nd rfl (.inl rfl) (dn_lst (da_cons (n_c (dn_list (by rfl) T.m_list (c_b (dd_v (pv 0))))) da_nil)))
      (ss_one (ds_while PassesOwn.never (dt_val dd_bl) (ss_cons (PS.mono (ps_setLc (i := 2) (own := [("step", 3)]) (by rfl) sc_levels.nd rfl rfl (sw_true rfl rfl rfl (by decide +kernel)) (db_seq (c_b (dd_ix hr (dd_b (pv 1)) (c_b (dd_neg dd_int))))) (blkOk_by (own := [("step", 3)]) (N := ["steps", "found", "repeats", "step", "inner"]) (sc := defScope s_levels) (by decide +kernel)) (fun _ _ _ _ _ => (dg_name (i := 3) sc_levels.nd rfl (Or.inl rfl))) (fun _ _ _ _ _ => (ts_one (dt_val (dd_call (fn_sub (ok_is_repeat T) (sp' := sp_is_repeatD) (fun _ _ => sub_is_repeat)) hr (by rfl) T.p_is_repeat.g T.p_is_repeat.F.kp T.p_is_repeat.b pass0 (da_cons (dd_v (pv 3)) da_nil))))) (fun _ _ _ _ _ => (dd_v (pv 3)))) (l_setF_n (l_lc (by simp))))
      (ss_cons (ds_if (dt_not (dt_tru (c_b (dd_v (pv 2))))) (ss_one (ds_retO (pv 1))) ss_nil)
      (ss_one (ds_app (pv 1) (n_c (PE.mono (pe_lc2 (own := [("step", 3), ("inner", 4)]) (vs1 := [4]) (by rfl) sc_levels.nd (db_seq (c_b (dd_v (pv 2)))) (blkOk_by (own := [("step", 3), ("inner", 4)]) (N := ["steps", "found", "repeats", "step", "inner"]) (sc := defScope s_levels) (by decide +kernel)) (by simp) (fun _ _ _ _ _ => (dg_name (i := 3) sc_levels.nd rfl (Or.inl rfl))) (fun _ _ _ _ _ => ts_nil) (fun _ _ _ _ _ => (di_seq (dd_call (fn_sub (ok_inner_steps T) (sp' := sp_inner_stepsD) (fun _ _ => sub_inner_steps)) hr (by rfl) T.p_inner_steps.g T.p_inner_steps.F.kp T.p_inner_steps.b pass0 (da_cons (dd_v (pv 3)) da_nil)))) (fun _ _ _ _ _ => (dg_name (i := 4) sc_levels.nd rfl (Or.inl rfl))) (fun _ _ _ _ _ => ts_nil) (fun _ _ _ _ _ => (dd_v (pv 4)))) (l_lc2 (by simp) (by simp))))))))))))
    exact ⟨_, tm, fn_d al wn ok dd q (rd_levelsD sp)⟩
theorem ok_script_size (T : Txt K mg) {k : Nat} : FnOk P w K mg base CX0 (k + 5) T.p_script_size.f T.p_script_size.fd ["steps"] (lSp K false sp_script_sizeD) := by
  refine T.p_script_size.F.ok sc_script_size (fun vs H Q E h => ?_) (fun cdv A outer s H vs Q E hr h => ?_)
  · obtain ⟨W, N0, ds, Pd, _, _, _, dd, sp, _⟩ := h
    rw [dd.len]
    exact ln_script_sizeD sp
  · obtain ⟨W, N0, ds, Pd, al, wn, ok, dd, sp, q⟩ := h
    have tm : PSs (cxOf CX0 P w K mg base ["steps", "level"] "script_size" (defScope s_script_size) T.p_script_size.f cdv A outer s H E).nox (defBody s_script_size) (lS ⟨K, W, N0, H, false⟩ (d_script_sizeD)) := ((ss_one (ds_ret (by rfl) (dd_sum (by rfl) T.m_sum (c_b (n_c (PE.mono (pe_lc (own := [("level", 1)]) (by rfl) sc_script_size.nd (db_seq (c_b (n_c (dn_call (ok_levels T) hr (by rfl) T.p_levels.g T.p_levels.F.kp T.p_levels.b pass0 (da_cons (dd_v (pv 0)) da_nil))))) (blkOk_by (own := [("level", 1)]) (N := ["steps", "level"]) (sc := defScope s_script_size) (by decide +kernel)) (fun _ _ _ _ _ => (dg_name (i := 1) sc_script_size.nd rfl (Or.inl rfl))) (fun _ _ _ _ _ => ts_nil) (fun _ _ _ _ _ => (dd_len (by rfl) T.m_len (c_b (dd_v (pv 1)))))) (l_lc (by simp)))))))))
    exact ⟨_, tm, fn_d al wn ok dd q (rd_script_sizeD sp)⟩
theorem ok_fresh_step (T : Txt K mg) {k : Nat} : FnOk P w K mg base CX0 (k + 2) T.p_fresh_step.f T.p_fresh_step.fd ["step"] (lSp K .pr sp_fresh_stepQ) := by
  refine T.p_fresh_step.F.ok sc_fresh_step (fun vs H Q E h => ?_) (fun cdv A outer s H vs Q E hr h => ?_)
  · obtain ⟨W, N0, ds, Pd, _, _, _, dd, sp, _⟩ := h
    rw [dd.len]
    exact ln_fresh_stepQ sp
  · obtain ⟨W, N0, ds, Pd, al, wn, ok, dd, sp, q⟩ := h
    have tm : PSs (cxOf CX0 P w K mg base ["step"] "fresh_step" (defScope s_fresh_step) T.p_fresh_step.f cdv A outer s H E).nox (defBody s_fresh_step) (lS ⟨K, W, N0, H, .pr⟩ (d_fresh_stepQ)) := ((ss_cons (ds_if (PW.pt (wt_and (dt_val (dd_call (ok_begins_with T) hr (by rfl) T.p_begins_with.g T.p_begins_with.F.kp T.p_begins_with.b pass0 (da_cons (dd_v (pv 0)) (da_cons (c_liftK (x := (.ktp [.str "raise", .str "lower"])) (pe_glob (v := .ref T.a_MOVES) (by rfl) T.c_MOVES rfl) T.k_MOVES) da_nil)))) (wt_and (dt_eq hr (c_b (dd_len (by rfl) T.m_len (c_b (dd_v (pv 0))))) (c_b dd_int)) (wt_and1 (dt_val (dd_call (ok_is_list T) hr (by rfl) T.p_is_list.g T.p_is_list.F.kp T.p_is_list.b pass0 (da_cons (dd_ix hr (c_b (dd_v (pv 0))) (c_b dd_int)) da_nil))))))) (ss_one (ds_retTN rfl (dd_ix hr (c_b (dd_v (pv 0))) (c_b dd_int)) (dn_list (by rfl) T.m_list (c_b (dd_ix hr (c_b (dd_v (pv 0))) (c_b dd_int)))))) ss_nil)
      (ss_one (ds_retPu rfl (dd_v (pv 0))))))
    exact ⟨_, tm, fn_d al wn ok dd q (rd_fresh_stepQ sp)⟩
theorem flat_all (T : Txt K mg) {k : Nat} : ∀ n : Nat, FnOk P w K mg base CX0 (k + n + 3) T.p_flat.f T.p_flat.fd ["steps"] (lSp K .pr (sp_flatQ n)) := by
  intro n
  induction n with
  | zero => exact ⟨fun _ _ _ _ h => (let ⟨_, _, _, _, _, _, _, _, sp, _⟩ := h; sp.elim), fun _ _ _ _ _ _ _ _ _ _ _ _ _ h => (let ⟨_, _, _, _, _, _, _, _, sp, _⟩ := h; sp.elim)⟩
  | succ n G =>
    refine T.p_flat.F.ok sc_flat (fun vs H Q E h => ?_) (fun cdv A outer s H vs Q E hr h => ?_)
    · obtain ⟨W, N0, ds, Pd, _, _, _, dd, sp, _⟩ := h
      rw [dd.len]
      exact ln_flatQ sp
    · obtain ⟨W, N0, ds, Pd, al, wn, ok, dd, sp, q⟩ := h
      have tm : PSs (cxOf CX0 P w K mg base ["steps", "found", "step"] "flat" (defScope s_flat) T.p_flat.f cdv A outer s H E).nox (defBody s_flat) (lS ⟨K, W, N0, H, .pr⟩ (d_flatQ (sp_flatQ n))) := ((ds_grow (i := 1) (j := 2) rfl (by decide) (ps_asg (dn_lst da_nil) (pg_name (i := 1) sc_flat.nd rfl (.inl rfl)))
      (ps_for PassesOwn.never rfl (di_seq (dd_v (pv 0))) (pg_name (i := 2) sc_flat.nd rfl (.inl rfl)) (pss_one (ps_if (dt_not (dt_val (dd_call (ok_is_repeat T) hr (by rfl) T.p_is_repeat.g T.p_is_repeat.F.kp T.p_is_repeat.b pass0 (da_cons (dd_v (pv 2)) da_nil)))) (pss_one (ps_app (pv 1) (dp_call (ok_fresh_step T) hr (by rfl) T.p_fresh_step.g T.p_fresh_step.F.kp T.p_fresh_step.b pass0 (da_cons (dd_v (pv 2)) da_nil)))) (pss_one (ps_if (dt_ne hr (c_b (dd_cut (c_b (dd_v (pv 2))) (do_some dd_int) (do_some dd_int))) (c_b (n_c (dn_tup (da_cons dd_int da_nil))))) (pss_one (ps_extd (pv 1) (dp_call G hr (by rfl) T.p_flat.g T.p_flat.F.kp T.p_flat.b pass0 (da_cons (dd_call (ok_inner_steps T) hr (by rfl) T.p_inner_steps.g T.p_inner_steps.F.kp T.p_inner_steps.b pass0 (da_cons (dd_v (pv 2)) da_nil)) da_nil)))) pss_nil)))))
      (ps_ret (pv 1))))
      exact ⟨_, tm, fn_d al wn ok dd q (rd_flatQ sp)⟩
theorem ok_flat (T : Txt K mg) {k : Nat} : FnOk P w K mg base CX0 (k + 10) T.p_flat.f T.p_flat.fd ["steps"] (lSp K .pr (sp_flatQ 6)) := flat_all (k := k + 1) T 6
theorem okb_bag (T : Txt K mg) {k : Nat} : FnOk P w K mg base CX0 (k + 1) T.p_bag.f T.p_bag.fd ["_law_script_here"] (spBag K) := by
  refine T.p_bag.F.ok sc_bag (fun vs H Q E h => ?_) (fun cdv A outer s H vs Q E hr h => ?_)
  · obtain ⟨a, ns, rfl, _⟩ := h
    rfl
  · obtain ⟨a, ns, rfl, hS, hlen, q⟩ := h
    refine ⟨_, (pss_cons (ps_set (i := 1) sc_bag.nd rfl (.inl rfl) pe_int)
      (pss_cons (ps_for PassesOwn.never rfl (pi_list (pe_slice (r := rSlL K) sl_list (pv 0) po_none (po_some pe_int))) (pg_name (i := 2) sc_bag.nd rfl (.inl rfl)) (pss_one (ps_set (i := 1) sc_bag.nd rfl (.inl rfl) (pe_op op_mod (pe_op op_add (pe_op op_add (pe_op op_mul (pv 1) pe_int) (pe_op op_mod (pv 2) pe_int)) pe_int) pe_int))))
      (pss_one (ps_ret (pe_lst (pa_cons (pe_callTy (T := "list") (r := RK.rListQ K) RK.call_listQ (by rfl) T.m_list (by decide +kernel) (pa_cons (pe_slice (r := rSlL K) sl_list (pv 0) po_none (po_some pe_int)) pa_nil)) (pa_cons pe_int (pa_cons pe_int (pa_cons (pv 1) pa_nil))))))))), ?_⟩
    refine ⟨.ref a, rfl, 63, rfl, a, _, rfl, hS, fun p np => ?_⟩
    rw [cut63 ns hlen]
    have s1 : Same H (upd H p (.lst (ns.map V.int))) := same_new np _
    refine ⟨p, rfl, ⟨_, .inl (.inl upd_same)⟩, for_list (xs := ns.map V.int) (fun _ σ H' => ∃ z y2, σ = [some (.ref a), some (.int z), y2] ∧ 0 ≤ z ∧ z < 2147483647 ∧ H' = upd H p (.lst (ns.map V.int))) ⟨9489, none, rfl, by decide, by decide, rfl⟩ ?_ ?_ ?_⟩
    · rintro i σ H' _ ⟨z, y2, rfl, _, _, rfl⟩
      exact .inl (.inl upd_same)
    · rintro i x σ H' hx ⟨z, y2, rfl, z0, z1, rfl⟩
      rw [List.getElem?_map] at hx
      obtain ⟨c, hc, rfl⟩ := Option.map_eq_some_iff.mp hx
      refine ⟨.int z, rfl, _, _, rfl, rfl, .inl ⟨by omega, by omega⟩, .int c, rfl, _, _, rfl, rfl, (show (0 : Int) < 2147483587 by decide), _, _, rfl, rfl, _, _, rfl, rfl, _, _, rfl, rfl, (show (0 : Int) < 2147483647 by decide), _, _, rfl, Int.emod_nonneg _ (by decide), Int.emod_lt_of_pos _ (by decide), rfl⟩
    · rintro σ H' ⟨z, y2, rfl, z0, z1, rfl⟩
      refine ⟨.ref a, rfl, 63, rfl, a, _, rfl, s1.seq hS, fun p2 np2 => ?_⟩
      rw [cut63 ns hlen]
      have s2 := same_new np2 (.lst (ns.map V.int))
      refine ⟨p2, _, rfl, .inl (.inl (.inl upd_same)), fun l nl => ?_⟩
      have s3 := same_new nl (.lst (ns.map V.int))
      refine ⟨.int z, rfl, (by show 4 ≤ sizeLine; decide), fun b nb => ?_⟩
      have s4 := same_new nb (.lst [.ref l, .int 0, .int 0, .int z])
      have st : Same H _ := ((s1.trans s2).trans s3).trans s4
      refine q _ b l st (((s1.trans s2).trans s3).free nb) ((s1.trans s2).free nl) ⟨ns, 0, 0, z, upd_same, s4 _ _ upd_same, ne_of_none upd_same nb, Nat.zero_le _, hlen, by decide, z0, z1⟩
theorem okb_pull (T : Txt K mg) {k : Nat} : FnOk P w K mg base CX0 (k + 1) T.p_pull.f T.p_pull.fd ["_law_bag_here", "_law_amount"] spPull := by
  refine T.p_pull.F.ok sc_pull (fun vs H Q E h => ?_) (fun cdv A outer s H vs Q E hr h => ?_)
  · obtain ⟨b, s, n, rfl, _⟩ := h
    rfl
  · obtain ⟨b, s, n, rfl, B, n1, n2, q⟩ := h
    obtain ⟨ns, i, big, salt, B⟩ := B
    refine ⟨_, (C8.pss_cut (ps_if (PW.pt (pw_and (pt_cmpR op_eq (pe_ix (r := rIxL K) ix_list (pv 0) pe_int (fun _ _ => rfl)) pe_int (nomark _)) (pw_and1 (pt_cmpR op_lt (pe_ix (r := rIxL K) ix_list (pv 0) pe_int (fun _ _ => rfl)) (pe_callB (id := "len") (r := RK.rLenQ K) RK.call_lenQ (by rfl) T.m_len (by decide +kernel) (pa_cons (pe_ix (r := rIxL K) ix_list (pv 0) pe_int (fun _ _ => rfl)) pa_nil)) (nomark _))))) (pss_cons (ps_set (i := 2) sc_pull.nd rfl (.inl rfl) (pe_ix (r := rIxL K) ix_list (pe_ix (r := rIxL K) ix_list (pv 0) pe_int (fun _ _ => rfl)) (pe_ix (r := rIxL K) ix_list (pv 0) pe_int (fun _ _ => rfl)) (fun _ _ => rfl)))
      (pss_cons (ps_asg (pe_op op_add (pe_ix (r := rIxL K) ix_list (pv 0) pe_int (fun _ _ => rfl)) pe_int) (pg_sub (pv 0) pe_int L2.set_list))
      (pss_one (ps_if (pt_cmpR op_ge (pv 2) (pe_op op_pow pe_int pe_int) (nomark _)) (pss_one (ps_asg (pv 2) (pg_sub (pv 0) pe_int L2.set_list))) (pss_one (ps_asg (pe_op op_mod (pe_op op_add (pe_op op_add (pe_op op_mul (pe_ix (r := rIxL K) ix_list (pv 0) pe_int (fun _ _ => rfl)) pe_int) (pe_op op_mul (pe_op op_mod (pv 2) pe_int) pe_int)) pe_int) pe_int) (pg_sub (pv 0) pe_int L2.set_list))))))) pss_nil)
      (pss_cons (ps_if (pt_cmpR op_gt (pe_ix (r := rIxL K) ix_list (pv 0) pe_int (fun _ _ => rfl)) pe_int (nomark _)) (pss_cons (ps_set (i := 3) sc_pull.nd rfl (.inl rfl) (pe_op op_mod (pe_ix (r := rIxL K) ix_list (pv 0) pe_int (fun _ _ => rfl)) (pv 1)))
      (pss_cons (ps_asg (pe_op op_fdivW (pe_ix (r := rIxL K) ix_list (pv 0) pe_int (fun _ _ => rfl)) (pv 1)) (pg_sub (pv 0) pe_int L2.set_list))
      (pss_one (ps_ret (pv 3))))) pss_nil)
      (pss_cons (ps_set (i := 4) sc_pull.nd rfl (.inl rfl) (pe_ix (r := rIxL K) ix_list (pv 0) pe_int (fun _ _ => rfl)))
      (pss_cons (ps_asg (pe_op op_mod (pe_op op_add (pe_op op_add (pe_op op_mul (pv 4) (pv 4)) (pe_op op_mul (pv 4) pe_int)) pe_int) pe_int) (pg_sub (pv 0) pe_int L2.set_list))
      (pss_one (ps_ret (pe_op op_mod (pe_op op_add (pe_op op_fdivW (pe_ix (r := rIxL K) ix_list (pv 0) pe_int (fun _ _ => rfl)) pe_int) (pe_op op_mul (pe_op op_mod (pe_ix (r := rIxL K) ix_list (pv 0) pe_int (fun _ _ => rfl)) pe_int) pe_int)) (pv 1)))))))), ?_⟩
    refine ⟨fun σ H' => ∃ y2, σ = [some (.ref b), some (.int n), y2, none, none] ∧ KeepT b H H' ∧ ∃ i big salt, BagC H' b s ns i big salt, ?_, ?_⟩
    · -- the first if
      refine ⟨.ref b, rfl, b, _, 2, _, rfl, rfl, SqL.of B.hb, at2, rfl, _, rfl, ite2 (fun c => ?_) (fun c => ?_)⟩
      · refine ⟨.ref b, rfl, b, _, 1, _, rfl, rfl, SqL.of B.hb, at1, .ref b, rfl, b, _, 0, _, rfl, rfl, SqL.of B.hb, at0, s, _, rfl, .inl (SqL.of B.hs), _, _, rfl, rfl, _, rfl, ite2 (fun c2 => ?_) (fun c2 => ?_)⟩
        · have hi : i < ns.length := by
            have := of_decide_eq_true c2
            rw [List.length_map] at this
            omega
          have g : (ns.map V.int)[i]? = some (.int ns[i]) := by
            rw [List.getElem?_map, List.getElem?_eq_getElem hi]
            rfl
          refine ⟨.ref b, rfl, b, _, 0, _, rfl, rfl, SqL.of B.hb, at0, .ref b, rfl, b, _, 1, _, rfl, rfl, SqL.of B.hb, at1, s, _, _, _, rfl, rfl, SqL.of B.hs, atI_nat g, ?_⟩
          refine ⟨.ref b, rfl, b, _, 1, _, rfl, rfl, SqL.of B.hb, at1, _, _, rfl, rfl, .ref b, rfl, b, _, 1, 1, rfl, rfl, B.hb, rfl, ?_⟩
          have k1 : KeepT b H (upd H b (.lst [.ref s, .int (↑i + 1), .int big, .int salt])) := (KeepT.refl b H).upd
          have hs1 : (upd H b (.lst [.ref s, .int (↑i + 1), .int big, .int salt])) s = some (.lst (ns.map V.int)) := by rw [upd_ne B.ne]; exact B.hs
          refine ⟨.int ns[i], rfl, _, _, rfl, rfl, ⟨by decide, by decide, by decide⟩, _, _, rfl, rfl, _, rfl, ite2 (fun c3 => ?_) (fun c3 => ?_)⟩
          · have hc : 0 ≤ ns[i] := by
              have h3 := of_decide_eq_true c3
              have h4 : ((10 : Int) ^ (18 : Int).toNat) = 1000000000000000000 := by decide
              rw [h4] at h3
              omega
            refine ⟨.int ns[i], rfl, .ref b, rfl, b, _, 2, 2, rfl, rfl, upd_same, rfl, ?_⟩
            refine ⟨_, rfl, k1.upd, i + 1, ns[i], salt, ⟨?_, ?_, B.ne, hi, B.hn, hc, B.h1, B.h2⟩⟩
            · rw [upd_same]; rfl
            · rw [upd_ne B.ne]; exact hs1
          · refine ⟨.ref b, rfl, b, _, 3, _, rfl, rfl, SqL.of upd_same, at3, _, _, rfl, rfl, .inr ⟨by decide, by decide⟩, .int ns[i], rfl, _, _, rfl, rfl, (show (0 : Int) < 2147483587 by decide), _, _, rfl, rfl, .inr ⟨by decide, by decide⟩, _, _, rfl, rfl, _, _, rfl, rfl, _, _, rfl, rfl, (show (0 : Int) < 2147483647 by decide), .ref b, rfl, b, _, 3, 3, rfl, rfl, upd_same, rfl, ?_⟩
            refine ⟨_, rfl, k1.upd, i + 1, big, (salt * 40692 + ns[i] % 2147483587 * 48271 + 7) % 2147483647, ⟨?_, ?_, B.ne, hi, B.hn, B.h0, Int.emod_nonneg _ (show (2147483647 : Int) ≠ 0 by decide), Int.emod_lt_of_pos _ (show (0 : Int) < 2147483647 by decide)⟩⟩
            · rw [upd_same]; rfl
            · rw [upd_ne B.ne]; exact hs1
        · exact ⟨_, rfl, KeepT.refl b H, i, big, salt, B⟩
      · exact ⟨_, rfl, KeepT.refl b H, i, big, salt, B⟩
    · rintro σ H1 ⟨y2, rfl, k1, i, big, salt, B⟩
      refine ⟨.ref b, rfl, b, _, 2, _, rfl, rfl, SqL.of B.hb, at2, _, _, rfl, rfl, _, rfl, ite2 (fun c => ?_) (fun c => ?_)⟩
      · refine ⟨.ref b, rfl, b, _, 2, _, rfl, rfl, SqL.of B.hb, at2, .int n, rfl, _, _, rfl, rfl, (show (0 : Int) < n by omega), .ref b, rfl, b, _, 2, _, rfl, rfl, SqL.of B.hb, at2, .int n, rfl, _, _, rfl, rfl, cdivw n1 n2, .ref b, rfl, b, _, 2, 2, rfl, rfl, B.hb, rfl, .int (big % n), rfl, ?_⟩
        refine q _ _ (Int.emod_nonneg _ (by omega)) (Int.emod_lt_of_pos _ (by omega)) k1.upd ⟨ns, i, big / n, salt, ?_, ?_, B.ne, B.hi, B.hn, Int.ediv_nonneg B.h0 (by omega), B.h1, B.h2⟩
        · rw [upd_same]; rfl
        · rw [upd_ne B.ne]; exact B.hs
      · have h1 := B.h1
        have h2 := B.h2
        refine ⟨.ref b, rfl, b, _, 3, _, rfl, rfl, SqL.of B.hb, at3, .int salt, rfl, .int salt, rfl, _, _, rfl, rfl, .inl ⟨by omega, by omega⟩, .int salt, rfl, _, _, rfl, rfl, .inl ⟨by omega, by omega⟩, _, _, rfl, rfl, _, _, rfl, rfl, _, _, rfl, rfl, (show (0 : Int) < 2147483647 by decide), .ref b, rfl, b, _, 3, 3, rfl, rfl, B.hb, rfl, ?_⟩
        refine ⟨.ref b, rfl, b, _, 3, _, rfl, rfl, SqL.of upd_same, at3, _, _, rfl, rfl, cdivw (n := 89) (by decide) (by decide), .ref b, rfl, b, _, 3, _, rfl, rfl, SqL.of upd_same, at3, _, _, rfl, rfl, (show (0 : Int) < 8191 by decide), _, _, rfl, rfl, .inr ⟨by decide, by decide⟩, _, _, rfl, rfl, .int n, rfl, _, _, rfl, rfl, (show (0 : Int) < n by omega), ?_⟩
        refine q _ _ (Int.emod_nonneg _ (by omega)) (Int.emod_lt_of_pos _ (by omega)) k1.upd ⟨ns, i, big, (salt * salt + salt * 69621 + 1013904223) % 2147483647, ?_, ?_, B.ne, B.hi, B.hn, B.h0, Int.emod_nonneg _ (show (2147483647 : Int) ≠ 0 by decide), Int.emod_lt_of_pos _ (show (0 : Int) < 2147483647 by decide)⟩
        · rw [upd_same]; rfl
        · rw [upd_ne B.ne]; exact B.hs
theorem ok_pull (T : Txt K mg) {k : Nat} : FnOk P w K mg base CX0 (k + 1) T.p_pull.f T.p_pull.fd ["_law_bag_here", "_law_amount"] (lSp K false sp_pull) := pull_d (okb_pull T)
theorem ok_of (T : Txt K mg) {k : Nat} : FnOk P w K mg base CX0 (k + 2) T.p_of.f T.p_of.fd ["_law_bag_here", "_law_things"] (lSp K false sp_of) := by
  refine T.p_of.F.ok sc_of (fun vs H Q E h => ?_) (fun cdv A outer s H vs Q E hr h => ?_)
  · obtain ⟨W, N0, ds, Pd, _, _, _, dd, sp, _⟩ := h
    rw [dd.len]
    exact ln_of sp
  · obtain ⟨W, N0, ds, Pd, al, wn, ok, dd, sp, q⟩ := h
    have tm : PSs (cxOf CX0 P w K mg base ["_law_bag_here", "_law_things"] "_law_of" (defScope s_of) T.p_of.f cdv A outer s H E).nox (defBody s_of) (lS ⟨K, W, N0, H, false⟩ (d_of)) := ((ss_one (ds_ret (by rfl) (dd_ix hr (c_b (dd_v (pv 1))) (c_b (dd_call (ok_pull T) hr (by rfl) T.p_pull.g T.p_pull.F.kp T.p_pull.b pass0 (da_cons (dd_v (pv 0)) (da_cons (dd_len (by rfl) T.m_len (c_b (dd_v (pv 1)))) da_nil))))))))
    exact ⟨_, tm, fn_d al wn ok dd q (rd_of sp)⟩
theorem like_all (T : Txt K mg) {k : Nat} : ∀ n : Nat, FnOk P w K mg base CX0 (k + n) T.p_like.f T.p_like.fd ["_law_found", "_law_due"] (lSp K false (sp_like n)) := by
  intro n
  induction n with
  | zero => exact ⟨fun _ _ _ _ h => (let ⟨_, _, _, _, _, _, _, _, sp, _⟩ := h; sp.elim), fun _ _ _ _ _ _ _ _ _ _ _ _ _ h => (let ⟨_, _, _, _, _, _, _, _, sp, _⟩ := h; sp.elim)⟩
  | succ n G =>
    refine T.p_like.F.ok sc_like (fun vs H Q E h => ?_) (fun cdv A outer s H vs Q E hr h => ?_)
    · obtain ⟨W, N0, ds, Pd, _, _, _, dd, sp, _⟩ := h
      rw [dd.len]
      obtain ⟨x, rfl, _⟩ := sp
      rfl
    · obtain ⟨W, N0, ds, Pd, al, wn, ok, dd, sp, q⟩ := h
      have tm : PSs (cxOf CX0 P w K mg base ["_law_found", "_law_due", "_law_k"] "_law_like" (defScope s_like) T.p_like.f cdv A outer s H E).nox (defBody s_like) (lS ⟨K, W, N0, H, false⟩ (d_like (sp_like n))) := ((ss_cons (ds_if (PW.pt (wt_or (dt_ne hr (c_b (dd_isi (by rfl) T.m_isinstance (c_b (dd_v (pv 1))) (pe_bltn (v := .ty "tuple") (by rfl) T.m_tuple (by decide +kernel) rfl))) (c_b (dd_isi (by rfl) T.m_isinstance (c_b (dd_v (pv 0))) (pe_bltn (v := .ty "tuple") (by rfl) T.m_tuple (by decide +kernel) rfl)))) (wt_or1 (dt_ne hr (c_b (dd_isi (by rfl) T.m_isinstance (c_b (dd_v (pv 1))) (pe_bltn (v := .ty "list") (by rfl) T.m_list (by decide +kernel) rfl))) (c_b (dd_isi (by rfl) T.m_isinstance (c_b (dd_v (pv 0))) (pe_bltn (v := .ty "list") (by rfl) T.m_list (by decide +kernel) rfl))))))) (ss_one (ds_ret (by rfl) dd_bl)) ss_nil)
      (ss_cons (ds_if (dt_not (dt_val (dd_isiT (by rfl) T.m_isinstance (c_b (dd_v (pv 1))) (pe_bltn (v := .ty "tuple") (by rfl) T.m_tuple (by decide +kernel) rfl) (pe_bltn (v := .ty "list") (by rfl) T.m_list (by decide +kernel) rfl)))) (ss_one (ds_ret (by rfl) (dd_and (dd_eq hr (c_b (dd_isi (by rfl) T.m_isinstance (c_b (dd_v (pv 0))) (pe_bltn (v := .ty "bool") (by rfl) T.m_bool (by decide +kernel) rfl))) (c_b (dd_isi (by rfl) T.m_isinstance (c_b (dd_v (pv 1))) (pe_bltn (v := .ty "bool") (by rfl) T.m_bool (by decide +kernel) rfl)))) (dd_one (dd_eq hr (c_b (dd_v (pv 0))) (c_b (dd_v (pv 1)))))))) ss_nil)
      (ss_one (ds_ret (by rfl) (dd_and (dd_eq hr (c_b (dd_len (by rfl) T.m_len (c_b (dd_v (pv 0))))) (c_b (dd_len (by rfl) T.m_len (c_b (dd_v (pv 1)))))) (dd_one (dd_all (by rfl) T.m_all (c_b (n_c (PE.mono (pe_lc (own := [("_law_k", 2)]) (by rfl) sc_like.nd (db_rng (by rfl) T.m_range (da_cons (dd_len (by rfl) T.m_len (c_b (dd_v (pv 1)))) da_nil)) (blkOk_by (own := [("_law_k", 2)]) (N := ["_law_found", "_law_due", "_law_k"]) (sc := defScope s_like) (by decide +kernel)) (fun _ _ _ _ _ => (dg_name (i := 2) sc_like.nd rfl (Or.inl rfl))) (fun _ _ _ _ _ => ts_nil) (fun _ _ _ _ _ => (dd_call G hr (by rfl) T.p_like.g T.p_like.F.kp T.p_like.b pass0 (da_cons (dd_ix hr (c_b (dd_v (pv 0))) (c_b (dd_v (pv 2)))) (da_cons (dd_ix hr (c_b (dd_v (pv 1))) (c_b (dd_v (pv 2)))) da_nil))))) (l_lc (by simp)))))))))))))
      exact ⟨_, tm, fn_d al wn ok dd q (rd_like sp)⟩
theorem ok_like (T : Txt K mg) {k : Nat} : FnOk P w K mg base CX0 (k + 7) T.p_like.f T.p_like.fd ["_law_found", "_law_due"] (lSp K false (sp_like 7)) := like_all T 7
theorem ok_mixed (T : Txt K mg) {k : Nat} : FnOk P w K mg base CX0 (k + 2) T.p_mixed.f T.p_mixed.fd ["_law_bag_here", "_law_things"] (lSp K true sp_mixed) := by
  refine T.p_mixed.F.ok sc_mixed (fun vs H Q E h => ?_) (fun cdv A outer s H vs Q E hr h => ?_)
  · obtain ⟨W, N0, ds, Pd, _, _, _, dd, sp, _⟩ := h
    rw [dd.len]
    exact ln_mixed sp
  · obtain ⟨W, N0, ds, Pd, al, wn, ok, dd, sp, q⟩ := h
    have tm : PSs (cxOf CX0 P w K mg base ["_law_bag_here", "_law_things", "_law_found", "_law_thing"] "_law_mixed" (defScope s_mixed) T.p_mixed.f cdv A outer s H E).nox (defBody s_mixed) (lS ⟨K, W, N0, H, true⟩ (d_mixed)) := ((ss_cons (ds_setO (i := 2) sc_mixed.nd rfl (.inl rfl) (dn_lst da_nil))
      (ss_cons (ds_for PassesOwn.never rfl (di_seq (dd_v (pv 1))) (dg_name (i := 3) sc_mixed.nd rfl (Or.inl rfl)) (ss_one (ds_ins (pv 2) (dd_call (ok_pull T) hr (by rfl) T.p_pull.g T.p_pull.F.kp T.p_pull.b pass0 (da_cons (dd_v (pv 0)) (da_cons (dd_add (c_b (dd_len (by rfl) T.m_len (dd_b (pv 2)))) (c_b dd_int)) da_nil))) (dd_v (pv 3)))))
      (ss_one (ds_retO (pv 2))))))
    exact ⟨_, tm, fn_d al wn ok dd q (rd_mixed sp)⟩
theorem ok_some (T : Txt K mg) {k : Nat} : FnOk P w K mg base CX0 (k + 3) T.p_some.f T.p_some.fd ["_law_bag_here", "_law_things"] (lSp K true sp_some) := by
  refine T.p_some.F.ok sc_some (fun vs H Q E h => ?_) (fun cdv A outer s H vs Q E hr h => ?_)
  · obtain ⟨W, N0, ds, Pd, _, _, _, dd, sp, _⟩ := h
    rw [dd.len]
    exact ln_some sp
  · obtain ⟨W, N0, ds, Pd, al, wn, ok, dd, sp, q⟩ := h
    have tm : PSs (cxOf CX0 P w K mg base ["_law_bag_here", "_law_things", "_law_mixed_here"] "_law_some" (defScope s_some) T.p_some.f cdv A outer s H E).nox (defBody s_some) (lS ⟨K, W, N0, H, true⟩ (d_some)) := ((ss_cons (ds_set (i := 2) sc_some.nd rfl (.inl rfl) (n_c (dn_call (ok_mixed T) hr (by rfl) T.p_mixed.g T.p_mixed.F.kp T.p_mixed.b pass0 (da_cons (dd_v (pv 0)) (da_cons (dd_v (pv 1)) da_nil)))))
      (ss_one (ds_retN (dn_cut (c_b (dd_v (pv 2))) do_none (do_some (dd_add (c_b dd_int) (c_b (dd_call (ok_pull T) hr (by rfl) T.p_pull.g T.p_pull.F.kp T.p_pull.b pass0 (da_cons (dd_v (pv 0)) (da_cons (dd_len (by rfl) T.m_len (c_b (dd_v (pv 2)))) da_nil)))))))))))
    exact ⟨_, tm, fn_d al wn ok dd q (rd_some sp)⟩
theorem ok_names (T : Txt K mg) {k : Nat} : FnOk P w K mg base CX0 (k + 3) T.p_names.f T.p_names.fd ["_law_bag_here", "_law_count"] (lSp K true sp_names) := by
  refine T.p_names.F.ok sc_names (fun vs H Q E h => ?_) (fun cdv A outer s H vs Q E hr h => ?_)
  · obtain ⟨W, N0, ds, Pd, _, _, _, dd, sp, _⟩ := h
    rw [dd.len]
    exact ln_names sp
  · obtain ⟨W, N0, ds, Pd, al, wn, ok, dd, sp, q⟩ := h
    have tm : PSs (cxOf CX0 P w K mg base ["_law_bag_here", "_law_count", "_law_letters", "_law_base", "_law_k", "_law_spot", "_law_first", "_law_step_here"] "_law_names" (defScope s_names) T.p_names.f cdv A outer s H E).nox (defBody s_names) (lS ⟨K, W, N0, H, true⟩ (d_names)) := ((ss_cons (PS.mono (ps_asg (n_c (dn_tup (da_cons dd_str (da_cons dd_str da_nil)))) (PG.mono (pg_tup (by rfl) (PGs.mono (pgs_cons (dg_name (i := 2) sc_names.nd rfl (Or.inr rfl)) (PGs.mono (pgs_cons (dg_name (i := 3) sc_names.nd rfl (Or.inr rfl)) dgs_nil) l_gcons)) l_gcons)) (l_gtup rfl))) l_asg)
      (ss_cons (ds_for PassesOwn.never rfl (di_rng (by rfl) T.m_range (da_cons (dd_call (ok_pull T) hr (by rfl) T.p_pull.g T.p_pull.F.kp T.p_pull.b pass0 (da_cons (dd_v (pv 0)) (da_cons dd_int da_nil))) da_nil)) (dg_name (i := 4) sc_names.nd rfl (Or.inl rfl)) (ss_one (ds_set (i := 3) sc_names.nd rfl (.inr rfl) (dd_add (c_b (dd_v (pv 3))) (c_b (dd_call (ok_of T) hr (by rfl) T.p_of.g T.p_of.F.kp T.p_of.b pass0 (da_cons (dd_v (pv 0)) (da_cons (dd_v (pv 2)) da_nil))))))))
      (ss_cons (ds_if (dt_eq hr (c_b (dd_call (ok_pull T) hr (by rfl) T.p_pull.g T.p_pull.F.kp T.p_pull.b pass0 (da_cons (dd_v (pv 0)) (da_cons dd_int da_nil)))) (c_b dd_int)) (ss_one (ds_retN (PE.mono (pe_lc (own := [("_law_k", 4)]) (by rfl) sc_names.nd (db_rng (by rfl) T.m_range (da_cons (dd_v (pv 1)) da_nil)) (blkOk_by (own := [("_law_k", 4)]) (N := ["_law_bag_here", "_law_count", "_law_letters", "_law_base", "_law_k", "_law_spot", "_law_first", "_law_step_here"]) (sc := defScope s_names) (by decide +kernel)) (fun _ _ _ _ _ => (dg_name (i := 4) sc_names.nd rfl (Or.inl rfl))) (fun _ _ _ _ _ => ts_nil) (fun _ _ _ _ _ => (dd_mul (c_b (dd_ix hr (c_b (dd_v (pv 2))) (c_b (dd_mod (c_b (dd_add (c_b (dd_len (by rfl) T.m_len (c_b (dd_v (pv 3))))) (c_b (dd_mul (c_b dd_int) (c_b (dd_v (pv 4))))))) (c_b dd_int))))) (c_b (dd_add (c_b dd_int) (c_b (dd_mod (c_b (dd_add (c_b (dd_len (by rfl) T.m_len (c_b (dd_v (pv 3))))) (c_b (dd_mul (c_b dd_int) (c_b (dd_v (pv 4))))))) (c_b dd_int)))))))) (l_lc (by simp))))) ss_nil)
      (ss_cons (PS.mono (ps_asg (n_c (dn_tup (da_cons (dd_call (ok_pull T) hr (by rfl) T.p_pull.g T.p_pull.F.kp T.p_pull.b pass0 (da_cons (dd_v (pv 0)) (da_cons (dd_add (c_b (dd_len (by rfl) T.m_len (c_b (dd_v (pv 3))))) (c_b dd_int)) da_nil))) (da_cons (dd_call (ok_pull T) hr (by rfl) T.p_pull.g T.p_pull.F.kp T.p_pull.b pass0 (da_cons (dd_v (pv 0)) (da_cons dd_int da_nil))) (da_cons (dd_call (ok_of T) hr (by rfl) T.p_of.g T.p_of.F.kp T.p_of.b pass0 (da_cons (dd_v (pv 0)) (da_cons (n_c (dn_lst (da_cons dd_int (da_cons dd_int (da_cons dd_int (da_cons dd_int (da_cons dd_int da_nil))))))) da_nil))) da_nil))))) (PG.mono (pg_tup (by rfl) (PGs.mono (pgs_cons (dg_name (i := 5) sc_names.nd rfl (Or.inr rfl)) (PGs.mono (pgs_cons (dg_name (i := 6) sc_names.nd rfl (Or.inr rfl)) (PGs.mono (pgs_cons (dg_name (i := 7) sc_names.nd rfl (Or.inr rfl)) dgs_nil) l_gcons)) l_gcons)) l_gcons)) (l_gtup rfl))) l_asg)
      (ss_one (ds_retN (PE.mono (pe_lc (own := [("_law_k", 4)]) (by rfl) sc_names.nd (db_rng (by rfl) T.m_range (da_cons (dd_v (pv 1)) da_nil)) (blkOk_by (own := [("_law_k", 4)]) (N := ["_law_bag_here", "_law_count", "_law_letters", "_law_base", "_law_k", "_law_spot", "_law_first", "_law_step_here"]) (sc := defScope s_names) (by decide +kernel)) (fun _ _ _ _ _ => (dg_name (i := 4) sc_names.nd rfl (Or.inl rfl))) (fun _ _ _ _ _ => ts_nil) (fun _ _ _ _ _ => (dd_add (c_b (dd_add (c_b (dd_cut (c_b (dd_v (pv 3))) do_none (do_some (dd_v (pv 5))))) (c_b (dd_ix hr (c_b (dd_v (pv 2))) (c_b (dd_mod (c_b (dd_add (c_b (dd_v (pv 6))) (c_b (dd_mul (c_b (dd_v (pv 7))) (c_b (dd_v (pv 4))))))) (c_b dd_int))))))) (c_b (dd_cut (c_b (dd_v (pv 3))) (do_some (dd_v (pv 5))) do_none))))) (l_lc (by simp))))))))))
    exact ⟨_, tm, fn_d al wn ok dd q (rd_names sp)⟩
theorem ok_rectangle (T : Txt K mg) {k : Nat} : FnOk P w K mg base CX0 (k + 2) T.p_rectangle.f T.p_rectangle.fd ["_law_bag_here", "_law_scale"] (lSp K true sp_rectangle) := by
  refine T.p_rectangle.F.ok sc_rectangle (fun vs H Q E h => ?_) (fun cdv A outer s H vs Q E hr h => ?_)
  · obtain ⟨W, N0, ds, Pd, _, _, _, dd, sp, _⟩ := h
    rw [dd.len]
    exact ln_rectangle sp
  · obtain ⟨W, N0, ds, Pd, al, wn, ok, dd, sp, q⟩ := h
    have tm : PSs (cxOf CX0 P w K mg base ["_law_bag_here", "_law_scale", "_law_left", "_law_top", "_law_right", "_law_bottom"] "_law_rectangle" (defScope s_rectangle) T.p_rectangle.f cdv A outer s H E).nox (defBody s_rectangle) (lS ⟨K, W, N0, H, true⟩ (d_rectangle)) := ((ss_cons (PS.mono (ps_par (i := 2) (j := 3) (by rfl) sc_rectangle.nd rfl rfl (by decide) rfl rfl (pa_cons (dd_sub (c_b (dd_call (ok_pull T) hr (by rfl) T.p_pull.g T.p_pull.F.kp T.p_pull.b pass0 (da_cons (dd_v (pv 0)) (da_cons dd_int da_nil)))) (c_b dd_int)) (pa_cons (dd_sub (c_b (dd_call (ok_pull T) hr (by rfl) T.p_pull.g T.p_pull.F.kp T.p_pull.b pass0 (da_cons (dd_v (pv 0)) (da_cons dd_int da_nil)))) (c_b dd_int)) pa_nil)) (by rfl)) l_par)
      (ss_cons (PS.mono (ps_par (i := 4) (j := 5) (by rfl) sc_rectangle.nd rfl rfl (by decide) rfl rfl (pa_cons (dd_add (c_b (dd_add (c_b (dd_v (pv 2))) (c_b dd_int))) (c_b (dd_call (ok_pull T) hr (by rfl) T.p_pull.g T.p_pull.F.kp T.p_pull.b pass0 (da_cons (dd_v (pv 0)) (da_cons dd_int da_nil))))) (pa_cons (dd_add (c_b (dd_add (c_b (dd_v (pv 3))) (c_b dd_int))) (c_b (dd_call (ok_pull T) hr (by rfl) T.p_pull.g T.p_pull.F.kp T.p_pull.b pass0 (da_cons (dd_v (pv 0)) (da_cons dd_int da_nil))))) pa_nil)) (by rfl)) l_par)
      (ss_one (ds_retN (dn_tup (da_cons (dd_mul (c_b (dd_v (pv 1))) (c_b (dd_v (pv 2)))) (da_cons (dd_mul (c_b (dd_v (pv 1))) (c_b (dd_v (pv 3)))) (da_cons (dd_mul (c_b (dd_v (pv 1))) (c_b (dd_v (pv 4)))) (da_cons (dd_mul (c_b (dd_v (pv 1))) (c_b (dd_v (pv 5)))) da_nil))))))))))
    exact ⟨_, tm, fn_d al wn ok dd q (rd_rectangle sp)⟩
theorem ok_moving (T : Txt K mg) {k : Nat} : FnOk P w K mg base CX0 (k + 4) T.p_moving.f T.p_moving.fd ["_law_bag_here", "_law_names_here"] (lSp K false sp_moving) := by
  refine T.p_moving.F.ok sc_moving (fun vs H Q E h => ?_) (fun cdv A outer s H vs Q E hr h => ?_)
  · obtain ⟨W, N0, ds, Pd, _, _, _, dd, sp, _⟩ := h
    rw [dd.len]
    exact ln_moving sp
  · obtain ⟨W, N0, ds, Pd, al, wn, ok, dd, sp, q⟩ := h
    have tm : PSs (cxOf CX0 P w K mg base ["_law_bag_here", "_law_names_here", "_law_some_here"] "_law_moving" (defScope s_moving) T.p_moving.f cdv A outer s H E).nox (defBody s_moving) (lS ⟨K, W, N0, H, false⟩ (d_moving)) := ((ss_cons (ds_set (i := 2) sc_moving.nd rfl (.inl rfl) (dd_if (dt_gt (c_b (dd_call (ok_pull T) hr (by rfl) T.p_pull.g T.p_pull.F.kp T.p_pull.b pass0 (da_cons (dd_v (pv 0)) (da_cons dd_int da_nil)))) (c_b dd_int)) (n_c (dn_call (ok_some T) hr (by rfl) T.p_some.g T.p_some.F.kp T.p_some.b pass0 (da_cons (dd_v (pv 0)) (da_cons (dd_v (pv 1)) da_nil)))) (n_c (dn_lst (da_cons (dd_call (ok_of T) hr (by rfl) T.p_of.g T.p_of.F.kp T.p_of.b pass0 (da_cons (dd_v (pv 0)) (da_cons (dd_v (pv 1)) da_nil))) da_nil)))))
      (ss_one (ds_ret (by rfl) (n_c (dn_tup (da_cons (dd_call (ok_of T) hr (by rfl) T.p_of.g T.p_of.F.kp T.p_of.b pass0 (da_cons (dd_v (pv 0)) (da_cons (n_c (dn_lst (da_cons dd_str (da_cons dd_str da_nil)))) da_nil))) (da_cons (dd_v (pv 2)) da_nil))))))))
    exact ⟨_, tm, fn_d al wn ok dd q (rd_moving sp)⟩
theorem ok_step (T : Txt K mg) {k : Nat} : FnOk P w K mg base CX0 (k + 5) T.p_step.f T.p_step.fd ["_law_bag_here", "_law_names_here"] (lSp K false sp_step) := by
  refine T.p_step.F.ok sc_step (fun vs H Q E h => ?_) (fun cdv A outer s H vs Q E hr h => ?_)
  · obtain ⟨W, N0, ds, Pd, _, _, _, dd, sp, _⟩ := h
    rw [dd.len]
    exact ln_step sp
  · obtain ⟨W, N0, ds, Pd, al, wn, ok, dd, sp, q⟩ := h
    have tm : PSs (cxOf CX0 P w K mg base ["_law_bag_here", "_law_names_here"] "_law_step" (defScope s_step) T.p_step.f cdv A outer s H E).nox (defBody s_step) (lS ⟨K, W, N0, H, false⟩ (d_step)) := ((ss_cons (ds_if (dt_eq hr (c_b (dd_call (ok_pull T) hr (by rfl) T.p_pull.g T.p_pull.F.kp T.p_pull.b pass0 (da_cons (dd_v (pv 0)) (da_cons dd_int da_nil)))) (c_b dd_int)) (ss_one (ds_ret (by rfl) (n_c (dn_tup (da_cons dd_str (da_cons (dd_call (ok_of T) hr (by rfl) T.p_of.g T.p_of.F.kp T.p_of.b pass0 (da_cons (dd_v (pv 0)) (da_cons (dd_v (pv 1)) da_nil))) (da_cons (n_c (dn_call (ok_rectangle T) hr (by rfl) T.p_rectangle.g T.p_rectangle.F.kp T.p_rectangle.b pass0 (da_cons (dd_v (pv 0)) (da_cons dd_int da_nil)))) da_nil))))))) ss_nil)
      (ss_one (ds_ret (by rfl) (dd_call (ok_moving T) hr (by rfl) T.p_moving.g T.p_moving.F.kp T.p_moving.b pass0 (da_cons (dd_v (pv 0)) (da_cons (dd_v (pv 1)) da_nil)))))))
    exact ⟨_, tm, fn_d al wn ok dd q (rd_step sp)⟩
theorem script_all (T : Txt K mg) {k : Nat} : ∀ n : Nat, FnOk P w K mg base CX0 (k + n + 5) T.p_script.f T.p_script.fd ["_law_bag_here", "_law_names_here", "_law_most", "_law_deep"] (lSp K false (sp_script n)) := by
  intro n
  induction n with
  | zero => exact ⟨fun _ _ _ _ h => (let ⟨_, _, _, _, _, _, _, _, sp, _⟩ := h; sp.elim), fun _ _ _ _ _ _ _ _ _ _ _ _ _ h => (let ⟨_, _, _, _, _, _, _, _, sp, _⟩ := h; sp.elim)⟩
  | succ n G =>
    refine T.p_script.F.ok sc_script (fun vs H Q E h => ?_) (fun cdv A outer s H vs Q E hr h => ?_)
    · obtain ⟨W, N0, ds, Pd, _, _, _, dd, sp, _⟩ := h
      rw [dd.len]
      exact ln_script sp
    · obtain ⟨W, N0, ds, Pd, al, wn, ok, dd, sp, q⟩ := h
      have tm : PSs (cxOf CX0 P w K mg base ["_law_bag_here", "_law_names_here", "_law_most", "_law_deep", "_law_found", "_law_k", "_law_count"] "_law_script" (defScope s_script) T.p_script.f cdv A outer s H E).nox (defBody s_script) (lS ⟨K, W, N0, H, false⟩ (d_script (sp_script n))) := ((ss_cons (ds_setO (i := 4) sc_script.nd rfl (.inl rfl) (dn_lst da_nil))
      (ss_cons (ds_for PassesOwn.never rfl (di_rng (by rfl) T.m_range (da_cons (dd_call (ok_pull T) hr (by rfl) T.p_pull.g T.p_pull.F.kp T.p_pull.b pass0 (da_cons (dd_v (pv 0)) (da_cons (dd_add (c_b (dd_v (pv 2))) (c_b dd_int)) da_nil))) da_nil)) (dg_name (i := 5) sc_script.nd rfl (Or.inl rfl)) (ss_one (ds_if (PW.pt (wt_and (dt_gt (c_b (dd_v (pv 3))) (c_b dd_int)) (wt_and1 (dt_eq hr (c_b (dd_call (ok_pull T) hr (by rfl) T.p_pull.g T.p_pull.F.kp T.p_pull.b pass0 (da_cons (dd_v (pv 0)) (da_cons dd_int da_nil)))) (c_b dd_int))))) (ss_cons (ds_set (i := 6) sc_script.nd rfl (.inl rfl) (dd_call (ok_of T) hr (by rfl) T.p_of.g T.p_of.F.kp T.p_of.b pass0 (da_cons (dd_v (pv 0)) (da_cons (n_c (dn_lst (da_cons dd_int (da_cons dd_int (da_cons dd_int (da_cons dd_int (da_cons (dd_pow (c_b dd_int) (c_b dd_int)) (da_cons (dd_add (c_b dd_int) (c_b (dd_call (ok_pull T) hr (by rfl) T.p_pull.g T.p_pull.F.kp T.p_pull.b pass0 (da_cons (dd_v (pv 0)) (da_cons (dd_pow (c_b dd_int) (c_b dd_int)) da_nil))))) da_nil)))))))) da_nil))))
      (ss_one (ds_app (pv 4) (n_c (dn_tup (da_cons dd_str (da_cons (dd_v (pv 6)) (da_cons (dd_call G hr (by rfl) T.p_script.g T.p_script.F.kp T.p_script.b pass0 (da_cons (dd_v (pv 0)) (da_cons (dd_v (pv 1)) (da_cons (dd_if (dt_lt (c_b (dd_v (pv 3))) (c_b dd_int)) dd_int dd_int) (da_cons (dd_sub (c_b (dd_v (pv 3))) (c_b dd_int)) da_nil))))) da_nil)))))))) (ss_one (ds_app (pv 4) (dd_call (ok_step T) hr (by rfl) T.p_step.g T.p_step.F.kp T.p_step.b pass0 (da_cons (dd_v (pv 0)) (da_cons (dd_v (pv 1)) da_nil))))))))
      (ss_one (ds_retO (pv 4))))))
      exact ⟨_, tm, fn_d al wn ok dd q (rd_script sp)⟩
theorem ok_script (T : Txt K mg) {k : Nat} : FnOk P w K mg base CX0 (k + 12) T.p_script.f T.p_script.fd ["_law_bag_here", "_law_names_here", "_law_most", "_law_deep"] (lSp K false (sp_script 6)) := script_all (k := k + 1) T 6
theorem l_flat_all (T : Txt K mg) {k : Nat} : ∀ n : Nat, FnOk P w K mg base CX0 (k + n + 0) T.p_l_flat.f T.p_l_flat.fd ["_law_script_here"] (lSp K false (sp_l_flat n)) := by
  intro n
  induction n with
  | zero => exact ⟨fun _ _ _ _ h => (let ⟨_, _, _, _, _, _, _, _, sp, _⟩ := h; sp.elim), fun _ _ _ _ _ _ _ _ _ _ _ _ _ h => (let ⟨_, _, _, _, _, _, _, _, sp, _⟩ := h; sp.elim)⟩
  | succ n G =>
    refine T.p_l_flat.F.ok sc_l_flat (fun vs H Q E h => ?_) (fun cdv A outer s H vs Q E hr h => ?_)
    · obtain ⟨W, N0, ds, Pd, _, _, _, dd, sp, _⟩ := h
      rw [dd.len]
      exact ln_l_flat sp
    · obtain ⟨W, N0, ds, Pd, al, wn, ok, dd, sp, q⟩ := h
      have tm : PSs (cxOf CX0 P w K mg base ["_law_script_here", "_law_found", "_law_step_here"] "_law_flat" (defScope s_l_flat) T.p_l_flat.f cdv A outer s H E).nox (defBody s_l_flat) (lS ⟨K, W, N0, H, false⟩ (d_l_flat (sp_l_flat n))) := ((ss_cons (ds_setO (i := 1) sc_l_flat.nd rfl (.inl rfl) (dn_lst da_nil))
      (ss_cons (ds_for PassesOwn.never rfl (di_seq (dd_v (pv 0))) (dg_name (i := 2) sc_l_flat.nd rfl (Or.inl rfl)) (ss_one (ds_if (dt_ne hr (c_b (dd_ix hr (c_b (dd_v (pv 2))) (c_b dd_int))) (c_b dd_str)) (ss_one (ds_app (pv 1) (dd_v (pv 2)))) (ss_one (ds_setO (i := 1) sc_l_flat.nd rfl (.inl rfl) (dn_add (dd_b (pv 1)) (c_b (dd_mul (c_b (dd_call G hr (by rfl) T.p_l_flat.g T.p_l_flat.F.kp T.p_l_flat.b pass0 (da_cons (dd_ix hr (c_b (dd_v (pv 2))) (c_b dd_int)) da_nil))) (c_b (dd_min2 (by rfl) T.m_min (c_b (dd_ix hr (c_b (dd_v (pv 2))) (c_b dd_int))) (c_b dd_int)))))))))))
      (ss_one (ds_retO (pv 1))))))
      exact ⟨_, tm, fn_d al wn ok dd q (rd_l_flat sp)⟩
theorem ok_l_flat (T : Txt K mg) {k : Nat} : FnOk P w K mg base CX0 (k + 7) T.p_l_flat.f T.p_l_flat.fd ["_law_script_here"] (lSp K false (sp_l_flat 6)) := l_flat_all (k := k + 1) T 6
theorem size_all (T : Txt K mg) {k : Nat} : ∀ n : Nat, FnOk P w K mg base CX0 (k + n + 0) T.p_size.f T.p_size.fd ["_law_script_here"] (lSp K false (sp_size n)) := by
  intro n
  induction n with
  | zero => exact ⟨fun _ _ _ _ h => (let ⟨_, _, _, _, _, _, _, _, sp, _⟩ := h; sp.elim), fun _ _ _ _ _ _ _ _ _ _ _ _ _ h => (let ⟨_, _, _, _, _, _, _, _, sp, _⟩ := h; sp.elim)⟩
  | succ n G =>
    refine T.p_size.F.ok sc_size (fun vs H Q E h => ?_) (fun cdv A outer s H vs Q E hr h => ?_)
    · obtain ⟨W, N0, ds, Pd, _, _, _, dd, sp, _⟩ := h
      rw [dd.len]
      exact ln_size sp
    · obtain ⟨W, N0, ds, Pd, al, wn, ok, dd, sp, q⟩ := h
      have tm : PSs (cxOf CX0 P w K mg base ["_law_script_here", "_law_step_here"] "_law_size" (defScope s_size) T.p_size.f cdv A outer s H E).nox (defBody s_size) (lS ⟨K, W, N0, H, false⟩ (d_size (sp_size n))) := ((ss_one (ds_ret (by rfl) (dd_add (c_b (dd_len (by rfl) T.m_len (c_b (dd_v (pv 0))))) (c_b (dd_sum (by rfl) T.m_sum (c_b (n_c (PE.mono (pe_lc (own := [("_law_step_here", 1)]) (by rfl) sc_size.nd (db_seq (c_b (dd_v (pv 0)))) (blkOk_by (own := [("_law_step_here", 1)]) (N := ["_law_script_here", "_law_step_here"]) (sc := defScope s_size) (by decide +kernel)) (fun _ _ _ _ _ => (dg_name (i := 1) sc_size.nd rfl (Or.inl rfl))) (fun _ _ _ _ _ => (ts_one (dt_eq hr (c_b (dd_ix hr (c_b (dd_v (pv 1))) (c_b dd_int))) (c_b dd_str)))) (fun _ _ _ _ _ => (dd_call G hr (by rfl) T.p_size.g T.p_size.F.kp T.p_size.b pass0 (da_cons (dd_ix hr (c_b (dd_v (pv 1))) (c_b dd_int)) da_nil)))) (l_lc (by simp)))))))))))
      exact ⟨_, tm, fn_d al wn ok dd q (rd_size sp)⟩
theorem ok_size (T : Txt K mg) {k : Nat} : FnOk P w K mg base CX0 (k + 7) T.p_size.f T.p_size.fd ["_law_script_here"] (lSp K false (sp_size 6)) := size_all (k := k + 1) T 6
theorem ok_law (T : Txt K mg) : RK.FnAt P w K mg base CX0 callerA T.f_law T.fd_law ["_law_script_here"] (spLaw K) := by
  refine DL.fun_at (k := 12) T.F_law sc_law ⟨rfl, by decide, by decide⟩ (fun vs H Q E h => ?_) (fun cdv outer s H vs Q E hr h => ?_)
  · obtain ⟨a, ns, rfl, _⟩ := h
    rfl
  · obtain ⟨a, ns, rfl, hS, hlen, q⟩ := h
    have tm : ∀ W N0 H0, PSs (cxOf CX0 P w K mg base ["_law_script_here", "_law_bag_here", "_law_turn", "_law_names_here", "_law_steps_z", "_law_shown", "_law_due", "_law_again", "_law_found", "_law_step_here", "_law_tuples"] "law" (defScope s_law) T.f_law cdv callerA outer s H E).nox ((defBody s_law).drop 1) (lS ⟨K, W, N0, H0, false⟩ (d_law)) := fun W N0 H0 => ((ss_cons (ds_for PassesOwn.never rfl (di_rng (by rfl) T.m_range (da_cons dd_int da_nil)) (dg_name (i := 2) sc_law.nd rfl (Or.inl rfl)) (ss_cons (ds_set (i := 3) sc_law.nd rfl (.inl rfl) (n_c (dn_call (ok_names T) hr (by rfl) T.p_names.g T.p_names.F.kp T.p_names.b pass0 (da_cons (dd_v (pv 1)) (da_cons (dd_add (c_b dd_int) (c_b (dd_call (ok_pull T) hr (by rfl) T.p_pull.g T.p_pull.F.kp T.p_pull.b pass0 (da_cons (dd_v (pv 1)) (da_cons dd_int da_nil))))) da_nil)))))
      (ss_cons (ds_set (i := 4) sc_law.nd rfl (.inl rfl) (dd_call (ok_script T) hr (by rfl) T.p_script.g T.p_script.F.kp T.p_script.b pass0 (da_cons (dd_v (pv 1)) (da_cons (dd_v (pv 3)) (da_cons dd_int (da_cons (dd_add (c_b dd_int) (c_b (dd_call (ok_pull T) hr (by rfl) T.p_pull.g T.p_pull.F.kp T.p_pull.b pass0 (da_cons (dd_v (pv 1)) (da_cons dd_int da_nil))))) da_nil))))))
      (ss_cons (PS.mono (ps_par (i := 5) (j := 6) (by rfl) sc_law.nd rfl rfl (by decide) rfl rfl (pa_cons (dd_reprN (by rfl) hr (by rfl) T.m_repr (c_b (dd_v (pv 4)))) (pa_cons (dd_call (ok_l_flat T) hr (by rfl) T.p_l_flat.g T.p_l_flat.F.kp T.p_l_flat.b pass0 (da_cons (dd_v (pv 4)) da_nil)) pa_nil)) (by rfl)) l_par)
      (ss_cons (ds_for PassesOwn.never rfl (di_rng (by rfl) T.m_range (da_cons dd_int da_nil)) (dg_name (i := 7) sc_law.nd rfl (Or.inl rfl)) (ds_scratch (i := 8) (j := 9) (ps_asg (dp_call (ok_flat T) hr (by rfl) T.p_flat.g T.p_flat.F.kp T.p_flat.b pass0 (da_cons (dd_v (pv 4)) da_nil)) (pg_name (i := 8) sc_law.nd rfl (.inl rfl)))
      (ps_if (PW.pt (wt_or (dt_not (dt_val (dd_call (ok_like T) hr (by rfl) T.p_like.g T.p_like.F.kp T.p_like.b pass0 (da_cons (n_c (dn_lst (da_cons (dd_v (pv 8)) (da_cons (dd_call (ok_script_size T) hr (by rfl) T.p_script_size.g T.p_script_size.F.kp T.p_script_size.b pass0 (da_cons (dd_v (pv 4)) da_nil)) da_nil)))) (da_cons (n_c (dn_lst (da_cons (dd_v (pv 6)) (da_cons (dd_call (ok_size T) hr (by rfl) T.p_size.g T.p_size.F.kp T.p_size.b pass0 (da_cons (dd_v (pv 4)) da_nil)) da_nil)))) da_nil))))) (wt_or1 (dt_ne hr (c_b (dd_reprN (by rfl) hr (by rfl) T.m_repr (c_b (dd_v (pv 4))))) (c_b (dd_v (pv 5))))))) (ss_one (ds_ret (by rfl) dd_bl)) pss_nil)
      (ps_for PassesOwn.never rfl (pi_list (pv 8)) (pg_name (i := 9) sc_law.nd rfl (.inl rfl)) (pss_one (ps_if (pt_nePl (pe_ix0 (n := 0) (pv 9))) (pss_one (ps_app (pe_ix0 (n := 1) (pv 9)) pe_str)) pss_nil)))
      (ps_clrL (pv 8))))
      (ss_one (ds_if (PW.pt (wt_or (dt_not (dt_val (dd_call (ok_like T) hr (by rfl) T.p_like.g T.p_like.F.kp T.p_like.b pass0 (da_cons (dd_callKP (ok_flat T) hr (by rfl) T.p_flat.g T.p_flat.F.kp T.kb_flat_0_steps pass0 (dk_cons (n_c (dn_tuple (by rfl) T.m_tuple (c_b (dd_v (pv 4))))) dk_nil) (fun h hl => kd_kb_flat_0_steps h hl)) (da_cons (dd_v (pv 6)) da_nil))))) (wt_or1 (dt_ne hr (c_b (dd_callKP (ok_script_size T) hr (by rfl) T.p_script_size.g T.p_script_size.F.kp T.kb_script_size_0_steps pass0 (dk_cons (n_c (dn_tuple (by rfl) T.m_tuple (c_b (dd_v (pv 4))))) dk_nil) (fun h hl => kd_kb_script_size_0_steps h hl))) (c_b (dd_call (ok_size T) hr (by rfl) T.p_size.g T.p_size.F.kp T.p_size.b pass0 (da_cons (dd_v (pv 4)) da_nil))))))) (ss_one (ds_ret (by rfl) dd_bl)) ss_nil)))))))
      (ss_cons (ds_set (i := 10) sc_law.nd rfl (.inl rfl) (n_c (dn_lst (da_cons (n_c (dn_tup (da_cons dd_str (da_cons (n_c (dn_tup (da_cons dd_str (da_cons dd_str da_nil)))) da_nil)))) (da_cons (n_c (dn_tup (da_cons dd_str (da_cons dd_int (da_cons (n_c (dn_tup (da_cons (n_c (dn_tup (da_cons dd_str (da_cons (n_c (dn_tup (da_cons dd_str da_nil))) da_nil)))) da_nil))) da_nil))))) da_nil)))))
      (ss_one (ds_ret (by rfl) (dd_and (dd_call (ok_like T) hr (by rfl) T.p_like.g T.p_like.F.kp T.p_like.b pass0 (da_cons (dd_call (ok_flat T) hr (by rfl) T.p_flat.g T.p_flat.F.kp T.p_flat.b pass0 (da_cons (dd_v (pv 10)) da_nil)) (da_cons (n_c (dn_lst (da_cons (n_c (dn_tup (da_cons dd_str (da_cons (n_c (dn_lst (da_cons dd_str (da_cons dd_str da_nil)))) da_nil)))) (da_cons (n_c (dn_tup (da_cons dd_str (da_cons (n_c (dn_lst (da_cons dd_str da_nil))) da_nil)))) da_nil)))) da_nil))) (dd_and (dd_eq hr (c_b (dd_call (ok_flat T) hr (by rfl) T.p_flat.g T.p_flat.F.kp T.p_flat.b pass0 (da_cons (n_c (dn_lst da_nil)) da_nil))) (c_b (n_c (dn_lst da_nil)))) (dd_one (dd_eq hr (c_b (dd_call (ok_script_size T) hr (by rfl) T.p_script_size.g T.p_script_size.F.kp T.p_script_size.b pass0 (da_cons (n_c (dn_lst da_nil)) da_nil))) (c_b dd_int))))))))))
    refine ⟨_, pss_cons (ps_set (i := 1) sc_law.nd rfl (.inl rfl) (pe_call (okb_bag T) hr (by rfl) T.p_bag.g T.p_bag.F.kp T.p_bag.b .nil pass0 (pa_cons (pv 0) pa_nil))) (pss_ex tm), ?_⟩
    refine ⟨.ref a, rfl, a, ns, rfl, hS, hlen, fun H0 b s0 e0 nb ns0 B0 => law_bag (n := 9) e0 nb B0 q ?_⟩
    exact rd_law
end
theorem all_mk {l : PySem.W.OpenLaw} {w : World} {K : PySem.W.Frag} {h : Heap} {mg : Str → Option Value} {fa : Addr} (X : K.In h) (G : h.Ns mainGlobals mg) (hfa : mg "law" = some (.ref fa))
    (p0 : FT K mg "is_list" "is_list" s_is_list ["value"])
    (p1 : FT K mg "begins_with" "begins_with" s_begins_with ["step", "words"])
    (p2 : FT K mg "is_repeat" "is_repeat" s_is_repeat ["step"])
    (p3 : FT K mg "has_nested_script" "has_nested_script" s_has_nested_script ["step"])
    (p4 : FT K mg "inner_steps" "inner_steps" s_inner_steps ["step"])
    (p5 : FT K mg "levels" "levels" s_levels ["steps"])
    (p6 : FT K mg "script_size" "script_size" s_script_size ["steps"])
    (p7 : FT K mg "fresh_step" "fresh_step" s_fresh_step ["step"])
    (p8 : FT K mg "flat" "flat" s_flat ["steps"])
    (p9 : FT K mg "_law_bag" "_law_bag" s_bag ["_law_script_here"])
    (p10 : FT K mg "_law_pull" "_law_pull" s_pull ["_law_bag_here", "_law_amount"])
    (p11 : FT K mg "_law_of" "_law_of" s_of ["_law_bag_here", "_law_things"])
    (p12 : FT K mg "_law_like" "_law_like" s_like ["_law_found", "_law_due"])
    (p13 : FT K mg "_law_mixed" "_law_mixed" s_mixed ["_law_bag_here", "_law_things"])
    (p14 : FT K mg "_law_some" "_law_some" s_some ["_law_bag_here", "_law_things"])
    (p15 : FT K mg "_law_names" "_law_names" s_names ["_law_bag_here", "_law_count"])
    (p16 : FT K mg "_law_rectangle" "_law_rectangle" s_rectangle ["_law_bag_here", "_law_scale"])
    (p17 : FT K mg "_law_moving" "_law_moving" s_moving ["_law_bag_here", "_law_names_here"])
    (p18 : FT K mg "_law_step" "_law_step" s_step ["_law_bag_here", "_law_names_here"])
    (p19 : FT K mg "_law_script" "_law_script" s_script ["_law_bag_here", "_law_names_here", "_law_most", "_law_deep"])
    (p20 : FT K mg "_law_flat" "_law_flat" s_l_flat ["_law_script_here"])
    (p21 : FT K mg "_law_size" "_law_size" s_size ["_law_script_here"])
    {f22 : Addr} {od22 an22 : Option Addr} {sl22 : Array (Option Value)} {oc22 kV22 dc22 pm22 cd22 ct22 : Value}
    (a22 : PySem.W.nsIn K mainGlobals "law" = some (some (.ref f22)))
    (l22 : K.lookup f22 = some ⟨oc22, od22, .func (PySem.W.fnOf "law" "law" (defArgs s_law) (defBody s_law) (defScope s_law) .none kV22 dc22 pm22 an22 cd22 ct22), sl22⟩) (c22 : PySem.W.codeIn K cd22 "law" = true) (k22 : PySem.W.keepIn K (.ref f22) = true)
    {a_MOVES : Addr} (n_MOVES : PySem.W.nsIn K mainGlobals "MOVES" = some (some (.ref a_MOVES))) {od3_MOVES : Option Addr} {sl3_MOVES : Array (Option Value)} {n3_MOVES : Nat} {u0_MOVES u1_MOVES : Tok} (lk_MOVES : K.lookup a_MOVES = some ⟨.type "tuple", od3_MOVES, .seq #[.str "raise" u0_MOVES, .str "lower" u1_MOVES] n3_MOVES, sl3_MOVES⟩)
    (z_all : PySem.W.nsIn K mainGlobals "all" = some none)
    (z_bool : PySem.W.nsIn K mainGlobals "bool" = some none)
    (z_isinstance : PySem.W.nsIn K mainGlobals "isinstance" = some none)
    (z_len : PySem.W.nsIn K mainGlobals "len" = some none)
    (z_list : PySem.W.nsIn K mainGlobals "list" = some none)
    (z_min : PySem.W.nsIn K mainGlobals "min" = some none)
    (z_range : PySem.W.nsIn K mainGlobals "range" = some none)
    (z_repr : PySem.W.nsIn K mainGlobals "repr" = some none)
    (z_sum : PySem.W.nsIn K mainGlobals "sum" = some none)
    (z_tuple : PySem.W.nsIn K mainGlobals "tuple" = some none)
    : ∃ fd : FuncData, (∀ (s : Shared) (v : Value), BindsTo s fd ⟨[v], []⟩ [("_law_script_here", v)]) ∧ ∀ base : Heap, K.In base → base.Ns mainGlobals mg → RK.FnAt l.prog w K mg base CX0 callerA fa fd ["_law_script_here"] (DL.spLaw K) := by
  have e := hfa.symm.trans (PySem.W.mg_of X G a22)
  cases e
  have F22 := fun_mk (st := s_law) l22 c22 k22
  have b22 := F22.binds (ps := ["_law_script_here"]) fun _ _ _ _ _ _ us hl => match us, hl with | [_], _ => rfl
  have kb_script_size_0_steps : KBinds K p6.fd ["steps"] ["steps"] (kwG_kb_script_size_0_steps (α := Value)) (kwG_kb_script_size_0_steps (α := V)) := kb_of p6.F fun kV6 dc6 pm6 an6 cd6 ct6 => by
    refine ⟨fun s us ws _ hl => ?_, fun {vs us zs ws} r1 r2 => ?_⟩
    · match us, ws, hl with
      | [], [c0], _ => exact BindsTo.of_eq (fd := (PySem.W.fnOf "script_size" "script_size" (defArgs s_script_size) (defBody s_script_size) (defScope s_script_size) .none kV6 dc6 pm6 an6 cd6 ct6)) rfl
    · cases r1 with
      | nil =>
        cases r2 with
        | nil => exact .nil
        | cons q0 r2 =>
          cases r2 with
          | nil =>
            exact (.cons q0 .nil)
          | cons _ _ => exact .nil
      | cons _ _ => (cases r2 <;> exact .nil)
  have kb_flat_0_steps : KBinds K p8.fd ["steps"] ["steps"] (kwG_kb_flat_0_steps (α := Value)) (kwG_kb_flat_0_steps (α := V)) := kb_of p8.F fun kV8 dc8 pm8 an8 cd8 ct8 => by
    refine ⟨fun s us ws _ hl => ?_, fun {vs us zs ws} r1 r2 => ?_⟩
    · match us, ws, hl with
      | [], [c0], _ => exact BindsTo.of_eq (fd := (PySem.W.fnOf "flat" "flat" (defArgs s_flat) (defBody s_flat) (defScope s_flat) .none kV8 dc8 pm8 an8 cd8 ct8)) rfl
    · cases r1 with
      | nil =>
        cases r2 with
        | nil => exact .nil
        | cons q0 r2 =>
          cases r2 with
          | nil =>
            exact (.cons q0 .nil)
          | cons _ _ => exact .nil
      | cons _ _ => (cases r2 <;> exact .nil)
  let T : Txt K mg := { p_is_list := p0, p_begins_with := p1, p_is_repeat := p2, p_has_nested_script := p3, p_inner_steps := p4, p_levels := p5, p_script_size := p6, p_fresh_step := p7, p_flat := p8, p_bag := p9, p_pull := p10, p_of := p11, p_like := p12, p_mixed := p13, p_some := p14, p_names := p15, p_rectangle := p16, p_moving := p17, p_step := p18, p_script := p19, p_l_flat := p20, p_size := p21, f_law := _, fd_law := _, F_law := F22, b_law := b22, g_law := PySem.W.mg_of X G a22, kb_script_size_0_steps := kb_script_size_0_steps, kb_flat_0_steps := kb_flat_0_steps, a_MOVES := a_MOVES, c_MOVES := PySem.W.mg_of X G n_MOVES, k_MOVES := fun N W H => .ktp (vs := [.str "raise", .str "lower"]) lk_MOVES rfl rfl (show (2 : Nat) ≤ sizeLine by decide) (.cons ⟨_, rfl⟩ (.cons ⟨_, rfl⟩ .nil)) (.cons (.str _) (.cons (.str _) .nil)), m_all := PySem.W.mg_none_of X G z_all, m_bool := PySem.W.mg_none_of X G z_bool, m_isinstance := PySem.W.mg_none_of X G z_isinstance, m_len := PySem.W.mg_none_of X G z_len, m_list := PySem.W.mg_none_of X G z_list, m_min := PySem.W.mg_none_of X G z_min, m_range := PySem.W.mg_none_of X G z_range, m_repr := PySem.W.mg_none_of X G z_repr, m_sum := PySem.W.mg_none_of X G z_sum, m_tuple := PySem.W.mg_none_of X G z_tuple }
  exact ⟨(PySem.W.fnOf "law" "law" (defArgs s_law) (defBody s_law) (defScope s_law) .none kV22 dc22 pm22 an22 cd22 ct22), fun s v => .of_eq rfl, fun base _ _ => ok_law T⟩
theorem fun_ofD {K : PySem.W.Frag} {x q : Str} {s0 : Stmt} {kws : List (Str × V)} {f : Addr} {fd : FuncData} (h : FunD K x q (defArgs s0) (defBody s0) (defScope s0) [] kws f fd) : Fun K x q s0 f fd := by
  obtain ⟨⟨oc, od, dV, kV, doc, pm, an, cdv, ct, osl, e, l, c, d, _⟩, kp⟩ := h
  have z : dV = .none := d.elim (fun z => z.2) fun z => absurd rfl z.1
  subst z
  exact ⟨⟨oc, od, kV, doc, pm, an, cdv, ct, osl, e, l, c⟩, kp⟩
noncomputable def ft_of {K : PySem.W.Frag} {h : Heap} {mg : Str → Option Value} {nm qn : Str} {s0 : Stmt} {ps : List Str} (X : K.In h) (G : h.Ns mainGlobals mg) (a : PySem.W.nsIn K mainGlobals nm = some (some (.ref (He.ga K nm))))
    (d : ∃ fd, FunD K nm qn (defArgs s0) (defBody s0) (defScope s0) [] [] (He.ga K nm) fd)
    (b : ∀ (kV doc pm : Value) (an : Option Addr) (cdv ct : Value) (us : List Value), us.length = ps.length → bindArgs (PySem.W.fnOf nm qn (defArgs s0) (defBody s0) (defScope s0) .none kV doc pm an cdv ct) { pos := us } = pure (ps.zip us)) : FT K mg nm qn s0 ps :=
  ⟨_, d.choose, fun_ofD d.choose_spec, PySem.W.mg_of X G a, (fun_ofD d.choose_spec).binds b⟩
noncomputable def mt_of {K : PySem.W.Frag} {C f : Addr} {nm qn : Str} {s0 : Stmt} {ps : List Str} (m : Meth K C nm f)
    (d : ∃ fd, FunD K nm qn (defArgs s0) (defBody s0) (defScope s0) [] [] f fd)
    (b : ∀ (kV doc pm : Value) (an : Option Addr) (cdv ct : Value) (us : List Value), us.length = ps.length → bindArgs (PySem.W.fnOf nm qn (defArgs s0) (defBody s0) (defScope s0) .none kV doc pm an cdv ct) { pos := us } = pure (ps.zip us)) : MT K C nm qn s0 ps :=
  ⟨_, d.choose, fun_ofD d.choose_spec, (fun_ofD d.choose_spec).binds b, m.at_, m.fn, m⟩
theorem ex_at {l : List Bool} (h : l.all id = true) (i : Nat) {b : Bool} (e : l[i]? = some b) : b = true := List.all_eq_true.mp h b (List.mem_of_getElem? e)
theorem tup2_at {K : PySem.W.Frag} {a : Addr} {x y : Str} (h : tup2B K a x y = true) : ∃ od sl n u v, K.lookup a = some ⟨.type "tuple", od, .seq #[.str x u, .str y v] n, sl⟩ := by
  unfold tup2B at h
  split at h
  · rename_i e
    rw [Bool.and_eq_true, Bool.and_eq_true] at h
    have h1 := of_decide_eq_true h.1
    have h2 := of_decide_eq_true h.2.1
    have h3 := of_decide_eq_true h.2.2
    subst h1 h2 h3
    exact ⟨_, _, _, _, _, e⟩
  · cases h
theorem facts {w : World} {K : PySem.W.Frag} {h : Heap} {mg : Str → Option Value} {fa : Addr} (X : K.In h) (G : h.Ns mainGlobals mg) (hfa : mg "law" = some (.ref fa)) (c : He.SaysX faL fnL [] [] exB w h K) :
    ∃ fd : FuncData, (∀ (s : Shared) (v : Value), BindsTo s fd ⟨[v], []⟩ [("_law_script_here", v)]) ∧ ∀ base : Heap, K.In base → base.Ns mainGlobals mg → RK.FnAt PySem.Challenge.rw_raisekeys_k19_sizes_and_flat_scripts.prog w K mg base CX0 callerA fa fd ["_law_script_here"] (DL.spLaw K) := by
  have cd : He.SaysD faL fnL K := c.t.d
  have hx : (exL K).all id = true := c.more
  obtain ⟨fdL, dL⟩ := cd.def_ 22 rfl
  have FL : Fun K "law" "law" s_law (He.ga K "law") fdL := fun_ofD dL
  obtain ⟨oc, od, kV, doc, pm, an, cdv, ct, osl, eL, lL, cL⟩ := FL.ex
  subst eL
  refine' all_mk (l := PySem.Challenge.rw_raisekeys_k19_sizes_and_flat_scripts) X G hfa ?p0 ?p1 ?p2 ?p3 ?p4 ?p5 ?p6 ?p7 ?p8 ?p9 ?p10 ?p11 ?p12 ?p13 ?p14 ?p15 ?p16 ?p17 ?p18 ?p19 ?p20 ?p21 ?a22 ?l22 ?c22 ?k22 ?n_MOVES ?lk_MOVES ?z_all ?z_bool ?z_isinstance ?z_len ?z_list ?z_min ?z_range ?z_repr ?z_sum ?z_tuple
  (case p0 => exact ft_of X G (He.eqO_ok (cd.fact 0 (f := .glo "is_list") rfl)) (cd.def_ 0 rfl) (fun _ _ _ _ _ _ us hl => match us, hl with | [_], _ => rfl))
  (case p1 => exact ft_of X G (He.eqO_ok (cd.fact 1 (f := .glo "begins_with") rfl)) (cd.def_ 1 rfl) (fun _ _ _ _ _ _ us hl => match us, hl with | [_, _], _ => rfl))
  (case p2 => exact ft_of X G (He.eqO_ok (cd.fact 2 (f := .glo "is_repeat") rfl)) (cd.def_ 2 rfl) (fun _ _ _ _ _ _ us hl => match us, hl with | [_], _ => rfl))
  (case p3 => exact ft_of X G (He.eqO_ok (cd.fact 3 (f := .glo "has_nested_script") rfl)) (cd.def_ 3 rfl) (fun _ _ _ _ _ _ us hl => match us, hl with | [_], _ => rfl))
  (case p4 => exact ft_of X G (He.eqO_ok (cd.fact 4 (f := .glo "inner_steps") rfl)) (cd.def_ 4 rfl) (fun _ _ _ _ _ _ us hl => match us, hl with | [_], _ => rfl))
  (case p5 => exact ft_of X G (He.eqO_ok (cd.fact 5 (f := .glo "levels") rfl)) (cd.def_ 5 rfl) (fun _ _ _ _ _ _ us hl => match us, hl with | [_], _ => rfl))
  (case p6 => exact ft_of X G (He.eqO_ok (cd.fact 6 (f := .glo "script_size") rfl)) (cd.def_ 6 rfl) (fun _ _ _ _ _ _ us hl => match us, hl with | [_], _ => rfl))
  (case p7 => exact ft_of X G (He.eqO_ok (cd.fact 7 (f := .glo "fresh_step") rfl)) (cd.def_ 7 rfl) (fun _ _ _ _ _ _ us hl => match us, hl with | [_], _ => rfl))
  (case p8 => exact ft_of X G (He.eqO_ok (cd.fact 8 (f := .glo "flat") rfl)) (cd.def_ 8 rfl) (fun _ _ _ _ _ _ us hl => match us, hl with | [_], _ => rfl))
  (case p9 => exact ft_of X G (He.eqO_ok (cd.fact 9 (f := .glo "_law_bag") rfl)) (cd.def_ 9 rfl) (fun _ _ _ _ _ _ us hl => match us, hl with | [_], _ => rfl))
  (case p10 => exact ft_of X G (He.eqO_ok (cd.fact 10 (f := .glo "_law_pull") rfl)) (cd.def_ 10 rfl) (fun _ _ _ _ _ _ us hl => match us, hl with | [_, _], _ => rfl))
  (case p11 => exact ft_of X G (He.eqO_ok (cd.fact 11 (f := .glo "_law_of") rfl)) (cd.def_ 11 rfl) (fun _ _ _ _ _ _ us hl => match us, hl with | [_, _], _ => rfl))
  (case p12 => exact ft_of X G (He.eqO_ok (cd.fact 12 (f := .glo "_law_like") rfl)) (cd.def_ 12 rfl) (fun _ _ _ _ _ _ us hl => match us, hl with | [_, _], _ => rfl))
  (case p13 => exact ft_of X G (He.eqO_ok (cd.fact 13 (f := .glo "_law_mixed") rfl)) (cd.def_ 13 rfl) (fun _ _ _ _ _ _ us hl => match us, hl with | [_, _], _ => rfl))
  (case p14 => exact ft_of X G (He.eqO_ok (cd.fact 14 (f := .glo "_law_some") rfl)) (cd.def_ 14 rfl) (fun _ _ _ _ _ _ us hl => match us, hl with | [_, _], _ => rfl))
  (case p15 => exact ft_of X G (He.eqO_ok (cd.fact 15 (f := .glo "_law_names") rfl)) (cd.def_ 15 rfl) (fun _ _ _ _ _ _ us hl => match us, hl with | [_, _], _ => rfl))
  (case p16 => exact ft_of X G (He.eqO_ok (cd.fact 16 (f := .glo "_law_rectangle") rfl)) (cd.def_ 16 rfl) (fun _ _ _ _ _ _ us hl => match us, hl with | [_, _], _ => rfl))
  (case p17 => exact ft_of X G (He.eqO_ok (cd.fact 17 (f := .glo "_law_moving") rfl)) (cd.def_ 17 rfl) (fun _ _ _ _ _ _ us hl => match us, hl with | [_, _], _ => rfl))
  (case p18 => exact ft_of X G (He.eqO_ok (cd.fact 18 (f := .glo "_law_step") rfl)) (cd.def_ 18 rfl) (fun _ _ _ _ _ _ us hl => match us, hl with | [_, _], _ => rfl))
  (case p19 => exact ft_of X G (He.eqO_ok (cd.fact 19 (f := .glo "_law_script") rfl)) (cd.def_ 19 rfl) (fun _ _ _ _ _ _ us hl => match us, hl with | [_, _, _, _], _ => rfl))
  (case p20 => exact ft_of X G (He.eqO_ok (cd.fact 20 (f := .glo "_law_flat") rfl)) (cd.def_ 20 rfl) (fun _ _ _ _ _ _ us hl => match us, hl with | [_], _ => rfl))
  (case p21 => exact ft_of X G (He.eqO_ok (cd.fact 21 (f := .glo "_law_size") rfl)) (cd.def_ 21 rfl) (fun _ _ _ _ _ _ us hl => match us, hl with | [_], _ => rfl))
  (case a22 => exact He.eqO_ok (cd.fact 22 (f := .glo "law") rfl))
  (case l22 => exact lL)
  (case c22 => exact cL)
  (case k22 => exact FL.kp)
  (case n_MOVES => exact He.eqO_ok (cd.fact 23 (f := .glo "MOVES") rfl))
  (case lk_MOVES => exact (tup2_at (ex_at hx 0 rfl)).choose_spec.choose_spec.choose_spec.choose_spec.choose_spec)
  (case z_all => exact He.eqO_ok (cd.fact 24 (f := .free "all") rfl))
  (case z_bool => exact He.eqO_ok (cd.fact 25 (f := .free "bool") rfl))
  (case z_isinstance => exact He.eqO_ok (cd.fact 26 (f := .free "isinstance") rfl))
  (case z_len => exact He.eqO_ok (cd.fact 27 (f := .free "len") rfl))
  (case z_list => exact He.eqO_ok (cd.fact 28 (f := .free "list") rfl))
  (case z_min => exact He.eqO_ok (cd.fact 29 (f := .free "min") rfl))
  (case z_range => exact He.eqO_ok (cd.fact 30 (f := .free "range") rfl))
  (case z_repr => exact He.eqO_ok (cd.fact 31 (f := .free "repr") rfl))
  (case z_sum => exact He.eqO_ok (cd.fact 32 (f := .free "sum") rfl))
  (case z_tuple => exact He.eqO_ok (cd.fact 33 (f := .free "tuple") rfl))
theorem walk_atE {l : PySem.W.OpenLaw} {n : Nat} {q : Program} {loose : List Str} {XP : (Str → Option Value) → Heap → Prop} {YP : World → Heap → Prop} {d : DefRec} {CX : CXT} {x : Str}
    (hn : l.most = some n) (hn2 : n ≤ sizeLine) (hdf : d.params.defaults = [])
    (F : ∀ (w : World) (mg : Str → Option Value) (fa : Addr) (h : Heap), YP w h → h.Ns mainGlobals mg → mg d.name = some (.ref fa) → ∃ (K : PySem.W.Frag) (fd : FuncData) (sp : Sp), K.In h ∧ (∀ (s : Shared) (u : Value), BindsTo s fd ⟨[u], []⟩ [(x, u)]) ∧ (∀ (H : Hp) (a : Addr) (ns : List Int), ns.length ≤ n → Only H → SqL K H a (ns.map V.int) → sp [.ref a] H (fun v _ => v = .bl true) fun _ _ _ => False) ∧ ∀ bs : Heap, K.In bs → bs.Ns mainGlobals mg → FnAt l.prog w K mg bs CX callerA fa fd [x] sp)
    (hCX : ∀ (H : Hp) (s : Shared) (e : Value) (s' : Shared), CX [] H s (fun _ _ _ => False) e s' → False) :
    PySem.W.WalkO q loose XP YP l.row.toRowW d [] (fun f vs => PySem.call f vs) :=
  Att.attach_call hn hdf fun w s0 s1 mg mb fa o pm cd doc a vs ns G Y ho hd hcd hmg hobj hints hlen hg => by
    obtain ⟨K, fd, sp, KX, hb, hsp, hF⟩ := F w mg fa _ Y G.T.g hmg
    exact law_at KX G.T.g G.T.b G.T.builtins G.T.nolimit hg hobj hints (Nat.le_trans hlen hn2) hF hb (fun H hO hS => hsp H a ns hlen hO hS) fun H e s' => hCX H s1 e s'
end RK
open PySem PySem.W PySem.Calls PyProof.Rows
set_option maxHeartbeats 0 in
theorem PySem.Challenge.cw_raisekeys_k19_sizes_and_flat_scripts_holds : PySem.Challenge.rw_raisekeys_k19_sizes_and_flat_scripts.Holds := by
  w_on; o_law
  refine HandSHeadRun.head_any (r := OpenLaw.row PySem.Challenge.rw_raisekeys_k19_sizes_and_flat_scripts) (q := view (OpenLaw.row PySem.Challenge.rw_raisekeys_k19_sizes_and_flat_scripts).prog [25]) (H := RK.hkL) (ob := RK.obL) (M := 12000) (loose := RK.loL) (d := HandSHeadRun.topDef (OpenLaw.row PySem.Challenge.rw_raisekeys_k19_sizes_and_flat_scripts).prog 25) (kwd := []) RK.obL_eq
    (by kernel_rfl) (fun s => by kernel_rfl) RK.runL (by kernel_rfl) (by kernel_rfl) (by kernel_rfl) (by rfl) (by first | assumption | decide +kernel) (by decide +kernel) ⟨rfl, rfl, rfl, rfl, rfl, by decide +kernel⟩ ?hw ?hc
  case hw => w_witness2
  case hc =>
    refine RK.walk_atE (l := PySem.Challenge.rw_raisekeys_k19_sizes_and_flat_scripts) (n := 63) (x := "_law_script_here") (CX := L2.CX0) rfl (by decide) (by kernel_rfl) ?F (fun _ _ _ _ z => z)
    intro w mg fa h Y G hmg0
    obtain ⟨K, KX, c⟩ := Y
    have hmg : mg ("law" : PySem.Str) = some (.ref fa) := by
      have e : (HandSHeadRun.topDef (OpenLaw.row PySem.Challenge.rw_raisekeys_k19_sizes_and_flat_scripts).prog 25).name = ("law" : PySem.Str) := by kernel_rfl
      rw [← e]
      exact hmg0
    obtain ⟨fd, hb, hF⟩ := RK.facts (w := w) KX G hmg c
    exact ⟨K, fd, DL.spLaw K, KX, hb, fun H a ns hl _ hS => ⟨a, ns, rfl, hS, hl, fun _ => rfl⟩, hF⟩
