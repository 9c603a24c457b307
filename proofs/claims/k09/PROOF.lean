import PyProof.Rows.All
import Wide.All
import OpenK.AllK
import Wide.FinOn
import HandS.Wide
import HandS.Base
import HandS.Call
import HandS.List
import HandS.Comp
import HandS.Ends
import HandS.Dict
import HandS.Iter
import HandS.Text
import HandS.Words
import HandS.Codes
import HandS.Defaults
import HandS.IsInst
import HandS.MakeKwOnly
import HandS.DictComp
import HandS.DictEq
import HandS.More
import HandS.Conv
import HandS.FStr
import HandS.Style
import KE.KDictZip
import KE.KFmtOwn
import HandS.Walk
import HandS.Lambda
import HandS.Deep
import HandS.WordsDict
import KE.GoesMore
import PyProof.EnumMake
import KE.SortData
import HandS.Zip
import HandS.WideBits
import HandS.TupLe
import KE.DataMinMax
import HandS.SetKeys
import HandS.Strs
import HandS.SetFor
import PyProof.Rows.SetFrom
import PyProof.DictUpdate
import PyProof.DictDisplay
import HandS.SetBool
import PyProof.ReprRoads
import KE.GoesZip
import PySem.Challenge.RW_raisekeys_k09_whole_alike_orders_look_al
set_option Elab.async false
set_option linter.all false
set_option maxRecDepth 100000
set_option maxHeartbeats 4000000
namespace RK
open PySem PySem.Spec PyProof.Rows L2
theorem same_new {H : Hp} {p : Addr} (h : H p = none) (o : HO) : Same H (upd H p o) := fun b u q => by rw [upd_ne (ne_of_none q h)]; exact q
def Keep (b : Addr) (H H' : Hp) : Prop := ∀ a o, a ≠ b → H a = some o → H' a = some o
theorem Keep.refl (b : Addr) (H : Hp) : Keep b H H := fun _ _ _ h => h
theorem Keep.trans {b : Addr} {H H1 H2 : Hp} (a : Keep b H H1) (c : Keep b H1 H2) : Keep b H H2 := fun x o n h => c x o n (a x o n h)
theorem Keep.of {b : Addr} {H H1 : Hp} (a : Same H H1) : Keep b H H1 := fun x o _ h => a x o h
theorem Keep.upd {b : Addr} {H H1 : Hp} {o : HO} (a : Keep b H H1) : Keep b H (upd H1 b o) := fun x u n h => by rw [upd_ne n]; exact a x u n h
theorem Keep.tup {b t : Addr} {H H1 : Hp} {xs ys : List V} (k : Keep b H H1) (hb : H b = some (.lst ys)) (h : H t = some (.tup xs)) : H1 t = some (.tup xs) := k t _ (ne_of h hb (by intro z; cases z)) h
theorem Keep.dK {b t : Addr} {H H1 : Hp} {xs : List (Key × V)} {ys : List V} (k : Keep b H H1) (hb : H b = some (.lst ys)) (h : H t = some (.dK xs)) : H1 t = some (.dK xs) := k t _ (ne_of h hb (by intro z; cases z)) h
theorem Keep.free {b l : Addr} {H H1 : Hp} (k : Keep b H H1) (n : l ≠ b) (h : H1 l = none) : H l = none := by
  cases q : H l with
  | none => rfl
  | some o =>
    rw [k l o n q] at h
    cases h
structure BagC (H : Hp) (b s : Addr) (ns : List Int) (i : Nat) (big salt : Int) : Prop where
  hb : H b = some (.lst [.ref s, .int i, .int big, .int salt])
  hs : H s = some (.lst (ns.map V.int))
  ne : s ≠ b
  hi : i ≤ ns.length
  hn : ns.length ≤ 63
  h0 : 0 ≤ big
  h1 : 0 ≤ salt
  h2 : salt < 2147483647
def Bag (b s : Addr) (H : Hp) : Prop := ∃ ns i big salt, BagC H b s ns i big salt
theorem Bag.hb {b s : Addr} {H : Hp} (B : Bag b s H) : ∃ ys, H b = some (.lst ys) := by
  obtain ⟨ns, i, big, salt, B⟩ := B
  exact ⟨_, B.hb⟩
theorem Bag.hs {b s : Addr} {H : Hp} (B : Bag b s H) : ∃ ys, H s = some (.lst ys) := by
  obtain ⟨ns, i, big, salt, B⟩ := B
  exact ⟨_, B.hs⟩
theorem Bag.ne {b s : Addr} {H : Hp} (B : Bag b s H) : s ≠ b := by
  obtain ⟨ns, i, big, salt, B⟩ := B
  exact B.ne
theorem Bag.same {b s : Addr} {H H1 : Hp} (B : Bag b s H) (e : Same H H1) : Bag b s H1 := by
  obtain ⟨ns, i, big, salt, B⟩ := B
  exact ⟨ns, i, big, salt, e _ _ B.hb, e _ _ B.hs, B.ne, B.hi, B.hn, B.h0, B.h1, B.h2⟩
theorem Bag.new {b s p : Addr} {H : Hp} {o : HO} (B : Bag b s H) (h : H p = none) : Bag b s (upd H p o) := B.same (same_new h o)
theorem Bag.upd {b s p : Addr} {H : Hp} {o : HO} (B : Bag b s H) (h1 : p ≠ b) (h2 : p ≠ s) : Bag b s (upd H p o) := by
  obtain ⟨ns, i, big, salt, B⟩ := B
  exact ⟨ns, i, big, salt, by rw [upd_ne h1.symm]; exact B.hb, by rw [upd_ne h2.symm]; exact B.hs, B.ne, B.hi, B.hn, B.h0, B.h1, B.h2⟩
theorem Keep.of_tup {b s t : Addr} {H H1 : Hp} {xs : List V} (k : Keep b H H1) (B : Bag b s H) (h : H t = some (.tup xs)) : H1 t = some (.tup xs) := by
  obtain ⟨ys, hb⟩ := B.hb
  exact k.tup hb h
theorem sz {n : Nat} (h : n ≤ 1000) : n ≤ sizeLine := Nat.le_of_lt (small1000 h)
def spBag (K : PySem.W.Frag) : Sp := fun vs H Q _ => ∃ (a : Addr) (ns : List Int), vs = [.ref a] ∧ SqL K H a (ns.map V.int) ∧ ns.length ≤ 63 ∧ ∀ H' b s, Same H H' → H b = none → H s = none → Bag b s H' → Q (.ref b) H'
theorem cdivw {n : Int} (h1 : 1 ≤ n) (h2 : n ≤ 10000000000000000000000000000000000000000) : CDivW 0 n := by
  refine ⟨by omega, ?_⟩
  have h3 : n.natAbs < 2 ^ 200 := by
    have e : (2 : Nat) ^ 200 = 1606938044258990275541962092341162602522202993782792835301376 := by decide +kernel
    rw [e]
    omega
  have := (Nat.log2_lt (by omega)).mpr h3
  omega
def NoT (H H' : Hp) : Prop := ∀ a ps, H' a = some (.tbl ps) → ∃ qs, H a = some (.tbl qs)
def Ntb : HO → Prop
  | .tbl _ => False
  | _ => True
theorem noT_upd {H : Hp} {p : Addr} {o : HO} (n : Ntb o) : NoT H (upd H p o) := fun a ps h => by
  by_cases e : a = p
  · rw [e, upd_same] at h
    cases h
    exact n.elim
  · rw [upd_ne e] at h
    exact ⟨_, h⟩
structure KeepT (b : Addr) (H H' : Hp) : Prop where
  f : Keep b H H'
  n : NoT H H'
theorem KeepT.refl (b : Addr) (H : Hp) : KeepT b H H := ⟨Keep.refl b H, fun _ _ z => ⟨_, z⟩⟩
theorem KeepT.upd {b : Addr} {H H1 : Hp} {xs : List V} (k : KeepT b H H1) : KeepT b H (upd H1 b (.lst xs)) := ⟨k.f.upd, fun a ps h => let ⟨qs, q⟩ := noT_upd (o := .lst xs) True.intro a ps h; k.n a qs q⟩
def spPull : Sp := fun vs H Q _ => ∃ (b s : Addr) (n : Int), vs = [.ref b, .int n] ∧ Bag b s H ∧ 1 ≤ n ∧ n ≤ 10000000000000000000000000000000000000000 ∧ ∀ r H', 0 ≤ r → r < n → KeepT b H H' → Bag b s H' → Q (.int r) H'
theorem cut63 (ns : List Int) (h : ns.length ≤ 63) : cutV (ns.map V.int) none (some 63) = ns.map V.int := by
  unfold cutV
  rw [HT.sIx_none, show HT.sIx (ns.map V.int).length (ns.map V.int).length (some 63) = min 63 (ns.map V.int).length from HT.sIx_nat _ _ 63]
  rw [List.drop_zero, List.length_map]
  exact List.take_of_length_le (by rw [List.length_map]; omega)
theorem at0 {α : Type} {x : α} {xs : List α} : atI (x :: xs) 0 = some x := atI_nat (j := 0) rfl
theorem at1 {α : Type} {x y : α} {xs : List α} : atI (x :: y :: xs) 1 = some y := atI_nat (j := 1) rfl
theorem at2 {α : Type} {x y z : α} {xs : List α} : atI (x :: y :: z :: xs) 2 = some z := atI_nat (j := 2) rfl
theorem at3 {α : Type} {x y z w : α} {xs : List α} : atI (x :: y :: z :: w :: xs) 3 = some w := atI_nat (j := 3) rfl
section
variable {X : Cx} {CX : CXT} {k : Nat} {f : Addr} {fd : FuncData} {ps ks : List Str} {sp : Sp} {E : XK} {x : Str} {p pos : Pos} {kws : List Keyword} {tk : TA} {g : List Value → List Value → List Value} {gV : List V → List V → List V}
end
def rLenQ (K : PySem.W.Frag) : List V → Hp → VK → Prop := fun xs H Q => ∃ p ys, xs = [.ref p] ∧ (SqL K H p ys ∨ SqT K H p ys) ∧ Q (.int ys.length) H
theorem call_lenQ {X : Cx} : CallR X (.builtin "len") (rLenQ X.K) := call_len_seq
def rListQ (K : PySem.W.Frag) : List V → Hp → VK → Prop := fun xs H Q => ∃ p ys, xs = [.ref p] ∧ (SqL K H p ys ∨ SqT K H p ys) ∧ ∀ l, H l = none → Q (.ref l) (upd H l (.lst ys))
theorem call_listQ {X : Cx} : CallR X (.type "list") (rListQ X.K) := call_list_of
section
variable {K : PySem.W.Frag} {H H' : Hp}
theorem same_tup {a : Addr} {xs : List V} (e : Same H H') (h : SqT K H a xs) : SqT K H' a xs := by
  rcases h with (h | ⟨o, h⟩) | h
  · exact .inl (.inl (e _ _ h))
  · exact .inl (.inr ⟨o, e _ _ h⟩)
  · exact .inr h
mutual
theorem dp_same (e : Same H H') : ∀ {v : V} {d : PyData}, Dp K H v d → Dp K H' v d
  | _, _, .non => .non
  | _, _, .bl b => .bl b
  | _, _, .int i => .int i
  | _, _, .str x => .str x
  | _, _, .lst h a => .lst (e.seq h) (dpAll_same e a)
  | _, _, .tup h a => .tup (same_tup e h) (dpAll_same e a)
theorem dpAll_same (e : Same H H') : ∀ {vs : List V} {ds : List PyData}, DpAll K H vs ds → DpAll K H' vs ds
  | _, _, .nil => .nil
  | _, _, .cons h a => .cons (dp_same e h) (dpAll_same e a)
end
end
structure R where
  l : Int
  t : Int
  r : Int
  b : Int
def R.vs (p : R) : List V := [.int p.l, .int p.t, .int p.r, .int p.b]
def R.ds (p : R) : List PyData := [.int p.l, .int p.t, .int p.r, .int p.b]
def R.good (p : R) : Prop := -1000000000 ≤ p.l ∧ p.l ≤ 1000000000 ∧ -1000000000 ≤ p.t ∧ p.t ≤ 1000000000 ∧ -1000000000 ≤ p.r ∧ p.r ≤ 1000000000 ∧ -1000000000 ≤ p.b ∧ p.b ≤ 1000000000 ∧ p.l < p.r ∧ p.t < p.b
def R.has (p : R) (x y : Int) : Prop := p.l ≤ x ∧ x < p.r ∧ p.t ≤ y ∧ y < p.b
end RK
namespace RK
open PySem PySem.Spec PyProof.Rows L2
section
variable {X : Cx}
inductive NotSub (K : PySem.W.Frag) (C : Addr) (H : Hp) : V → Prop
  | ins {a dx : Addr} {fs : List (Str × V)} : H a = some (.ins C dx fs) → NotSub K C H (.ref a)
  | dK {a : Addr} {kvs : List (Key × V)} : H a = some (.dK kvs) → PySem.W.subIn K (.type "dict") (.ref C) = some false → NotSub K C H (.ref a)
  | lst {a : Addr} {xs : List V} : H a = some (.lst xs) → PySem.W.subIn K (.type "list") (.ref C) = some false → NotSub K C H (.ref a)
def tDictZip (K : PySem.W.Frag) (ta : TA) : TE := fun σ H Q => ta σ H fun vs H1 => ∃ (a b : Addr) (ks : List Key) (ys : List V), vs = [.ref a, .ref b] ∧ SqL K H1 a (ks.map kV) ∧ SqL K H1 b ys ∧ ks.length = ys.length ∧ ∀ p, H1 p = none → Q (.ref p) (upd H1 p (.dK (mergeK [] (ks.zip ys))))
theorem kv_zip : ∀ {ks : List Key} {ys : List V} {us ws : List Value}, Vals (ks.map kV) us → Vals ys ws → KV (ks.zip ys) (ks.zip ws)
  | [], _, _, _, _, _ => by
    rw [List.zip_nil_left, List.zip_nil_left]
    exact .nil
  | k :: ks, [], _, _, _, r2 => by
    cases r2
    exact .nil
  | k :: ks, y :: ys, _, _, r1, r2 => by
    cases r1 with
    | cons _ r1 =>
      cases r2 with
      | cons h r2 => exact .cons ⟨rfl, h⟩ (kv_zip r1 r2)
theorem vals_at {k : Key} {P : Program} {w : World} : ∀ {ks : List Key} {us : List Value} {i : Nat} {u : Value}, Vals (ks.map kV) us → us[i]? = some u → ∃ k, ks[i]? = some k ∧ (mixKind P w).is k u = true
  | [], _, _, _, r, h => by
    cases r
    simp at h
  | k :: ks, _, 0, _, r, h => by
    cases r with
    | cons h1 _ =>
      have e := Option.some.inj h
      subst e
      exact ⟨k, rfl, kV_is h1⟩
  | k' :: ks, _, i + 1, _, r, h => by
    cases r with
    | cons _ r => exact vals_at (k := k) (i := i) r h
theorem pe_dictZip {e e2 : Expr} {ta : TA} {p p2 pos pos2 : Pos} (hc : X.calm = true) (hg : Gl X "dict") (hm : X.mg "dict" = none) (hg2 : Gl X "zip") (hm2 : X.mg "zip" = none) (ha : PA X [e, e2] ta)
    (hs : starEach [e, e2] X.env = (false, eval e X.env) :: starEach [e2] X.env := by rfl) (hpl : (backTo pos2 (starEach [e2] X.env)).any (·.1) = false := by rfl)
    (hs2 : starEach [.Call (.Name "zip" p2) [e, e2] [] pos2] X.env = (false, eval (.Call (.Name "zip" p2) [e, e2] [] pos2) X.env) :: starEach [] X.env := by rfl) :
    PE X (.Call (.Name "dict" p) [.Call (.Name "zip" p2) [e, e2] [] pos2] [] pos) (tDictZip X.K ta) := by
  refine ⟨fun pins s σ H Q I h => ?_⟩
  refine Call_ (ld_blt I hg hm (show bootBuiltins "dict" = some (.type "dict") by decide +kernel) (PyProof.Rows.callWith_type1 (args_cons (Call_ (ld_blt I hg2 hm2 PyProof.Rows.boot_zip (PyProof.Rows.callWith_type1 (thn (ha.run pos2 pins s σ H _ I h) fun us s1 ⟨vs, H1, I1, r1, q1⟩ => ?_) hs hpl))) hs2) hs2 rfl))
  obtain ⟨a, b, ks, ys, ex, hqx, hqy, hln, q⟩ := q1
  subst ex
  cases r1 with
  | cons r rr =>
    cases rr with
    | cons r' rr =>
      cases rr
      cases r
      cases r'
      obtain ⟨its, rv, p1, z1⟩ := I1.list hqx
      obtain ⟨its2, rv2, p2', z2⟩ := I1.list hqy
      have la : a < s1.heap.objs.size := p1.lt
      have lb : b < s1.heap.objs.size := p2'.lt
      have hl1 : its.length = ks.length := by rw [← rv.length, List.length_map]
      have hl2 : its2.length = ks.length := by rw [← rv2.length, hln]
      refine call_zip_2 p1.isList p2'.isList fun h' hz hTI hTO h1 h2 hsz hk => args_nil ?_
      have I2 : Inv X pins σ H1 { s1 with heap := h' } := I1.kept (t' := s1.toks) hk
      have hmin : min its.toArray.size its2.toArray.size = ks.length := by rw [List.size_toArray, List.size_toArray, hl1, hl2, Nat.min_self]
      refine PySem.call_dict_pairs (s := { s1 with heap := h' }) (knd := mixKind X.prog X.w) (kvs := ks.zip its2) (PairArg.zip _ _ _ _ _ a b (PySem.W.ktu_apart s1.heap.objs.size a b la lb) its.toArray its2.toArray) (I1.ok.hd hc)
        ⟨hz, hTI, ⟨_, _, hTO⟩, h1, h2, p1.isList.at fun o e => hk _ o e, p2'.isList.at fun o e => hk _ o e⟩ ⟨?_, ?_⟩ ?_ ?_
      · rw [hmin, List.length_zip, hl2, Nat.min_self]
      · rintro i key v ⟨e1, e2⟩
        rw [List.getElem?_toArray] at e1 e2
        obtain ⟨k, hk1, hk2⟩ := vals_at (k := .inl 0) (P := X.prog) (w := X.w) rv e1
        exact ⟨k, by rw [List.getElem?_zip_eq_some]; exact ⟨hk1, e2⟩, hk2⟩
      · rw [hmin, ← hl1, ← rv.length]
        exact z1
      · intro h2' tk hd' hk2
        have hbig : s1.heap.objs.size ≤ h'.objs.size := by omega
        have fr : ∀ c, c ∈ [s1.heap.objs.size + 4, s1.heap.objs.size + 3, s1.heap.objs.size, s1.heap.objs.size + 1] → s1.heap.get? c = none := fun c hc' => by
          simp only [List.mem_cons, List.not_mem_nil, or_false] at hc'
          have : s1.heap.objs.size ≤ c := by rcases hc' with z | z | z | z <;> omega
          exact Heap.get?_none_of_le this
        have keep : ∀ c o, s1.heap.get? c = some o → h2'.get? c = some o := fun c o e => by
          refine hk2 c o (fun hm' => ?_) (hk _ _ e)
          rw [fr c hm'] at e
          cases e
        have hm' : (h'.objs.size == sysModules) = false := beq_eq_false_iff_ne.mpr (Nat.ne_of_gt (Nat.lt_of_lt_of_le I1.big hbig))
        have hlen : (mergeK [] (ks.zip ys)).length ≤ sizeLine := by
          refine Nat.le_trans (length_mergeK _ []) ?_
          rw [List.length_nil, Nat.zero_add, List.length_zip, ← hln, Nat.min_self, ← hl1, ← rv.length]
          exact z1
        exact ⟨.ref h'.objs.size, upd H1 h'.objs.size (.dK (mergeK [] (ks.zip ys))), I1.laid (t' := tk) keep hbig (show ObjOk X.prog X.w _ _ _ (.dK (mergeK [] (ks.zip ys))) from ⟨hlen, hm', merged [] (ks.zip its2), KV.merge (kv_zip rv rv2) .nil, hd'⟩), rfl, q _ (I1.hok.fresh hbig)⟩
end
theorem kit_me (K : PySem.W.Frag) (C : Addr) : PySem.W.kitOne K (.ref C) (.ref C) = some true := by
  unfold PySem.W.kitOne
  rw [if_pos (by simp)]
theorem kit_sub {K : PySem.W.Frag} {C : Addr} {n : String} (h1 : PySem.W.isClsIn K C = true) (h2 : PySem.W.typeIn K (.ref C) = some (.type "type")) (h3 : PySem.W.subIn K (.type n) (.ref C) = some false) : PySem.W.kitOne K (.type n) (.ref C) = some false := by
  unfold PySem.W.kitOne
  rw [if_neg (by simp)]
  show (if ((PySem.W.clsIn K C).isSome && PySem.W.typeIn K (.ref C) == some (.type "type")) = true then PySem.W.subIn K (.type n) (.ref C) else none) = some false
  have h1' : (PySem.W.clsIn K C).isSome = true := h1
  rw [h1', h2, if_pos (by simp)]
  exact h3
end RK
namespace RK
open PySem PySem.Spec PyProof.Rows L2
section
open PySem.W
variable {prog : Program} {w : World} {K : PySem.W.Frag} {A : Around} {E : Value → Shared → Prop} {s : Shared} {x C f : Addr} {ox : Obj} {od : Option Obj}
open Builtin in
end
section
variable {X : Cx}
end
section
variable {X : Cx} {CX : CXT} {k : Nat} {f C : Addr} {fd : FuncData} {ps ks : List Str} {sp : Sp} {E : XK} {m : Str} {pos apos : Pos} {o : Expr} {kws : List Keyword} {ta : TE} {tk : TA} {g : List Value → List Value → List Value} {gV : List V → List V → List V}
end
end RK
namespace RK
open PySem PySem.Spec PyProof.Rows L2
theorem str_len (z : Str) : z.length = z.cps.toList.length := by
  show z.cps.size = _
  simp
theorem app_codes (a b : Str) : (a ++ b).cps.toList = a.cps.toList ++ b.cps.toList := by
  show (a.cps ++ b.cps).toList = _
  simp
theorem cut_codes (z : Str) (lo hi : Option Int) : (cutS z lo hi).cps.toList = (z.cps.toList.drop (HT.sIx z.length 0 lo)).take (HT.sIx z.length z.length hi - HT.sIx z.length 0 lo) := by
  unfold cutS
  simp
theorem str_ext {a b : Str} (h : a.cps.toList = b.cps.toList) : a = b := by
  obtain ⟨⟨x⟩⟩ := a
  obtain ⟨⟨y⟩⟩ := b
  simp at h
  rw [h]
def Low (c : Nat) : Prop := 97 ≤ c ∧ c ≤ 122
def NameOk (z : Str) : Prop := 1 ≤ z.length ∧ z.length ≤ 6 ∧ ∀ c ∈ z.cps.toList, Low c
abbrev abc : Str := "abcdefghijklmnopqrstuvwxyz"
theorem abc_codes : abc.cps.toList = List.range' 97 26 := by decide +kernel
theorem abc_len : abc.length = 26 := by rw [str_len, abc_codes]; rfl
theorem abc_mem {c : Nat} : c ∈ abc.cps.toList ↔ Low c := by
  rw [abc_codes, List.mem_range'_1]
  unfold Low
  omega
theorem one_len (c : Nat) : (⟨#[c]⟩ : Str).length = 1 := rfl
theorem mul_codes (c : Nat) : ∀ n : Nat, 1 ≤ n → ∃ k, (Txt.mul ⟨#[c]⟩ (n : Int)).cps.toList = List.replicate k c ∧ k = n := by
  intro n hn
  refine ⟨n, ?_, rfl⟩
  unfold Txt.mul
  rw [if_neg (by omega)]
  by_cases h1 : n = 1
  · subst h1
    rfl
  · have e1 : (((n : Int) == 1) || (⟨#[c]⟩ : Str).length == 0) = false := by
      have : ((n : Int) == 1) = false := by simp; omega
      rw [this]
      rfl
    rw [e1, if_neg (by decide)]
    show ((List.replicate (n : Int).toNat #[c]).foldl (· ++ ·) #[]).toList = _
    rw [Int.toNat_natCast]
    have key : ∀ (m : Nat) (acc : Array Nat), ((List.replicate m #[c]).foldl (· ++ ·) acc).toList = acc.toList ++ List.replicate m c := by
      intro m
      induction m with
      | zero => intro acc; simp
      | succ m ih =>
        intro acc
        rw [List.replicate_succ, List.foldl_cons, ih]
        simp [List.replicate_succ]
    rw [key]
    rfl
section
variable {X : Cx}
theorem op_mul_str : OpR X (binaryOp .Mult) (fun x y H Q => ∃ (c : Nat) (n : Int), x = .str ⟨#[c]⟩ ∧ y = .int n ∧ 1 ≤ n ∧ n ≤ 1000 ∧ Q (.str (Txt.mul ⟨#[c]⟩ n)) H) := by
  intro pins s σ H x y u v Q I rx ry h
  obtain ⟨c, n, rfl, rfl, h1, h2, q⟩ := h
  obtain ⟨t, rfl⟩ := rx
  obtain ⟨k, rfl⟩ := ry
  refine PySem.SB.mul (x := ⟨#[c]⟩) ⟨?_, ?_, ?_⟩ (fun t' k' => ⟨.str _, H, I.tok _, ⟨_, rfl⟩, q⟩)
  · rw [decide_eq_false (by omega), decide_eq_false (by omega)]
    rfl
  · intro _ _
    have : (1 : Int) ≤ (2 ^ 63 - 1) / n := by
      rw [Int.le_ediv_iff_mul_le (by omega)]
      omega
    show ¬ ((1 : Int) > _)
    omega
  · intro _ _
    show Builtin.Str.tooLong (1 * n.toNat) = false
    rw [Nat.one_mul]
    have hn : n.toNat ≤ 1000 := by omega
    unfold Builtin.Str.tooLong
    exact decide_eq_false (by
      have : (1000 : Nat) ≤ sizeLine := by decide
      omega)
end
def leS (a b : Str) : Prop := ¬ b.cps.toList < a.cps.toList
theorem leS_antisymm {a b : Str} (h1 : leS a b) (h2 : leS b a) : a = b := str_ext (List.le_antisymm (List.not_lt.mp h1) (List.not_lt.mp h2))
theorem leS_trans {a b c : Str} (h1 : leS a b) (h2 : leS b c) : leS a c := List.not_lt.mpr (List.le_trans (List.not_lt.mp h1) (List.not_lt.mp h2))
theorem rising_of : ∀ (r : List Str) (p : Str), risingS p r = true → (p :: r).Pairwise leS
  | [], p, _ => List.pairwise_singleton _ _
  | x :: r, p, h => by
    have h : (!ltCps x.cps.toList p.cps.toList && risingS x r) = true := h
    rw [Bool.and_eq_true] at h
    have ih := rising_of r x h.2
    have h1 : leS p x := by
      have h0 := h.1
      rw [ltCps_eq] at h0
      simpa [leS] using h0
    refine List.pairwise_cons.mpr ⟨fun y hy => ?_, ih⟩
    rcases List.mem_cons.mp hy with rfl | hy
    · exact h1
    · exact leS_trans h1 ((List.pairwise_cons.mp ih).1 y hy)
theorem sorted_of {l : List Str} (h : sortedS l = true) : l.Pairwise leS := by
  cases l with
  | nil => exact List.Pairwise.nil
  | cons x r => exact rising_of r x h
theorem sorted_one : ∀ {a b : List Str}, a.Perm b → a.Pairwise leS → b.Pairwise leS → a = b
  | [], b, p, _, _ => (List.nil_perm.mp p).symm
  | x :: a, [], p, _, _ => absurd p.length_eq (by simp)
  | x :: a, y :: b, p, h1, h2 => by
    have c1 := List.pairwise_cons.mp h1
    have c2 := List.pairwise_cons.mp h2
    have e : x = y := by
      have hx : x ∈ y :: b := p.mem_iff.mp List.mem_cons_self
      have hy : y ∈ x :: a := p.mem_iff.mpr List.mem_cons_self
      rcases List.mem_cons.mp hx with e | hx
      · exact e
      · rcases List.mem_cons.mp hy with e | hy
        · exact e.symm
        · exact leS_antisymm (c1.1 y hy) (c2.1 x hx)
    subst e
    rw [sorted_one ((List.perm_cons x).mp p) c1.2 c2.2]
end RK
namespace RK
open PySem PySem.Spec PyProof.Rows L2
abbrev W3 := Str × Addr × R
def kvOf (w : W3) : Key × V := (Sum.inr w.1, .ref w.2.1)
def nr (w : W3) : Str × R := (w.1, w.2.2)
def putW (ws : List W3) (w : W3) : List W3 := if (ws.any fun v => decide (v.1 = w.1)) = true then ws.map (fun v => if v.1 = w.1 then w else v) else ws ++ [w]
def Names (ws : List W3) : List Str := ws.map (·.1)
theorem inr_inj {a b : Str} : ((Sum.inr a : Key) = Sum.inr b) ↔ a = b := ⟨fun h => Sum.inr.inj h, fun h => by rw [h]⟩
theorem put_len (ws : List W3) (w : W3) : ws.length ≤ (putW ws w).length ∧ (putW ws w).length ≤ ws.length + 1 ∧ 1 ≤ (putW ws w).length := by
  unfold putW
  by_cases e : (ws.any fun v => decide (v.1 = w.1)) = true
  · rw [if_pos e, List.length_map]
    obtain ⟨v, hv, _⟩ := List.any_eq_true.mp e
    have := List.length_pos_of_mem hv
    omega
  · rw [if_neg e, List.length_append]
    show ws.length ≤ ws.length + 1 ∧ ws.length + 1 ≤ ws.length + 1 ∧ 1 ≤ ws.length + 1
    omega
structure Wins (H : Hp) (ws : List W3) : Prop where
  nd : (Names ws).Nodup
  nm : ∀ w ∈ ws, NameOk w.1
  at_ : ∀ w ∈ ws, H w.2.1 = some (.tup w.2.2.vs)
  gd : ∀ w ∈ ws, w.2.2.good
theorem Wins.same {H H' : Hp} {ws : List W3} (W : Wins H ws) (e : Same H H') : Wins H' ws := ⟨W.nd, W.nm, fun w hw => e _ _ (W.at_ w hw), W.gd⟩
theorem Wins.keep {b s : Addr} {H H' : Hp} {ws : List W3} (W : Wins H ws) (k : Keep b H H') (B : Bag b s H) : Wins H' ws := ⟨W.nd, W.nm, fun w hw => k.of_tup B (W.at_ w hw), W.gd⟩
theorem Wins.perm {H : Hp} {ws us : List W3} (W : Wins H ws) (p : us.Perm ws) : Wins H us := ⟨(List.Perm.map (fun x : W3 => x.1) p).nodup_iff.mpr W.nd, fun w hw => W.nm w (p.mem_iff.mp hw), fun w hw => W.at_ w (p.mem_iff.mp hw), fun w hw => W.gd w (p.mem_iff.mp hw)⟩
theorem Wins.sub {H : Hp} {ws us : List W3} (W : Wins H ws) (n : (Names us).Nodup) (h : ∀ w ∈ us, w ∈ ws) : Wins H us := ⟨n, fun w hw => W.nm w (h w hw), fun w hw => W.at_ w (h w hw), fun w hw => W.gd w (h w hw)⟩
def fldW (d : Addr) : List (Str × V) := [("windows", .ref d)]
structure DeskAt (C : Addr) (H : Hp) (p : Addr) (ws : List W3) : Prop where
  ex : ∃ dx d, H p = some (.ins C dx (fldW d)) ∧ H d = some (.dK (ws.map kvOf))
  win : Wins H ws
  so : (Names ws).Pairwise leS
theorem DeskAt.same {C : Addr} {H H' : Hp} {p : Addr} {ws : List W3} (D : DeskAt C H p ws) (e : Same H H') : DeskAt C H' p ws := by
  obtain ⟨⟨dx, d, h1, h2⟩, h3, h4⟩ := D
  exact ⟨⟨dx, d, e _ _ h1, e _ _ h2⟩, h3.same e, h4⟩
theorem DeskAt.keep {C b s : Addr} {H H' : Hp} {p : Addr} {ws : List W3} (D : DeskAt C H p ws) (k : Keep b H H') (B : Bag b s H) : DeskAt C H' p ws := by
  obtain ⟨⟨dx, d, h1, h2⟩, h3, h4⟩ := D
  obtain ⟨ys, hb⟩ := B.hb
  exact ⟨⟨dx, d, k _ _ (ne_of h1 hb (by intro z; cases z)) h1, k.dK hb h2⟩, h3.keep k B, h4⟩
theorem good_scaled {c x y x2 y2 : Int} (c0 : 1 ≤ c) (c1 : c ≤ 100000000) (a1 : -4 ≤ x) (a2 : x ≤ 4) (a3 : -4 ≤ y) (a4 : y ≤ 4) (a5 : x < x2) (a6 : x2 ≤ x + 4) (a7 : y < y2) (a8 : y2 ≤ y + 4) : (R.mk (c * x) (c * y) (c * x2) (c * y2)).good := by
  have up : ∀ z : Int, z ≤ 8 → c * z ≤ 1000000000 := fun z hz => by
    have h1 : c * z ≤ c * 8 := Int.mul_le_mul_of_nonneg_left hz (by omega)
    omega
  have lo : ∀ z : Int, -4 ≤ z → -1000000000 ≤ c * z := fun z hz => by
    have h1 : c * (-4) ≤ c * z := Int.mul_le_mul_of_nonneg_left hz (by omega)
    omega
  have lt : ∀ u v : Int, u < v → c * u < c * v := fun u v h => Int.mul_lt_mul_of_pos_left h (by omega)
  exact ⟨lo x a1, up x (by omega), lo y a3, up y (by omega), lo x2 (by omega), up x2 (by omega), lo y2 (by omega), up y2 (by omega), lt _ _ a5, lt _ _ a7⟩
end RK
namespace DL
open PySem PySem.Spec PyProof.Rows L2 RK
inductive D where
  | non | bl (b : Bool) | int (i : Int) | str (x : Str)
  | lst (xs : List D) | tup (xs : List D) | ktp (xs : List D)
  | dic (kvs : List (Key × D)) | dct (kvs : List (List Key × D))
  | obj (C : Addr) (fs : List (Str × D))
  | bag
instance : Inhabited D := ⟨.non⟩
abbrev Wd := Option (Addr × Addr × List (Addr × Str))
def Wd.own : Wd → Addr → Prop
  | none, _ => False
  | some (b, s, T), a => a = b ∨ a = s ∨ ∃ p ∈ T, p.1 = a
def Wd.ok : Wd → Hp → Prop
  | none, _ => True
  | some (b, s, T), H => Bag b s H ∧ LamX.Tabs T H ∧ (T ≠ [] → ∀ a ps, H a = some (.tbl ps) → ∃ p ∈ T, p.1 = a)
def Plo : HO → Prop
  | .ext _ => False
  | .tbl _ => False
  | _ => True
theorem Plo.ntb : ∀ {o : HO}, Plo o → Ntb o := fun {o} h => by cases o <;> first | exact True.intro | exact h
theorem Wd.al : ∀ {W : Wd} {H : Hp} {a : Addr}, W.ok H → W.own a → ∃ o, H a = some o
  | some (b, s, T), H, a, h, .inl e => by
    obtain ⟨ys, hb⟩ := Bag.hb h.1
    exact ⟨_, e ▸ hb⟩
  | some (b, s, T), H, a, h, .inr (.inl e) => by
    obtain ⟨ys, hb⟩ := Bag.hs h.1
    exact ⟨_, e ▸ hb⟩
  | some (b, s, T), H, a, h, .inr (.inr ⟨p, hp, e⟩) => by
    obtain ⟨ps, h1, _⟩ := h.2.1 p hp
    exact ⟨_, e ▸ h1⟩
theorem Wd.st0 : ∀ {W : Wd} {H H' : Hp}, W.ok H → (∀ a o, H a = some o → (W.own a ∨ ¬ Plo o) → H' a = some o) → NoT H H' → W.ok H'
  | none, _, _, _, _, _ => trivial
  | some (b, s, T), H, H', h, k, n => by
    obtain ⟨⟨ns, i, big, salt, B⟩, tb, nt⟩ := h
    refine ⟨⟨ns, i, big, salt, k _ _ B.hb (.inl (.inl rfl)), k _ _ B.hs (.inl (.inr (.inl rfl))), B.ne, B.hi, B.hn, B.h0, B.h1, B.h2⟩, fun p hp => ?_, fun ne a ps h => let ⟨qs, q⟩ := n a ps h; nt ne a qs q⟩
    obtain ⟨ps, h1, h2, h3⟩ := tb p hp
    refine ⟨ps, k _ _ h1 (.inl (.inr (.inr ⟨p, hp, rfl⟩))), h2, fun pos cv hc => ?_⟩
    obtain ⟨c, e, hcd⟩ := h3 pos cv hc
    exact ⟨c, e, k _ _ hcd (.inr id)⟩
theorem Wd.st {W : Wd} {H H' : Hp} (h : W.ok H) (k : ∀ a o, H a = some o → (W.own a ∨ ¬ Plo o) → H' a = some o) (n : NoT H H') : W.ok H' := Wd.st0 h k n
mutual
inductive Dd (K : PySem.W.Frag) (N : Addr → Prop) (W : Wd) (H : Hp) : V → D → Prop
  | non : Dd K N W H .non .non
  | bl (b : Bool) : Dd K N W H (.bl b) (.bl b)
  | int (i : Int) : Dd K N W H (.int i) (.int i)
  | str (x : Str) : Dd K N W H (.str x) (.str x)
  | lst {a : Addr} {vs : List V} {ds : List D} : H a = some (.lst vs) → ¬ N a → DdAll K N W H vs ds → Dd K N W H (.ref a) (.lst ds)
  | tup {a : Addr} {vs : List V} {ds : List D} : H a = some (.tup vs) → ¬ N a → DdAll K N W H vs ds → Dd K N W H (.ref a) (.tup ds)
  | dic {a : Addr} {kvs : List (Key × V)} {kds : List (Key × D)} : Rd H a (.dK kvs) → ¬ N a → kvs.map (·.1) = kds.map (·.1) → DdAll K N W H (kvs.map (·.2)) (kds.map (·.2)) → Dd K N W H (.ref a) (.dic kds)
  | dct {a : Addr} {kvs : List (List Key × V)} {kds : List (List Key × D)} : Rd H a (.dT kvs) → ¬ N a → kvs.map (·.1) = kds.map (·.1) → DdAll K N W H (kvs.map (·.2)) (kds.map (·.2)) → Dd K N W H (.ref a) (.dct kds)
  | obj {a C dx : Addr} {fs : List (Str × V)} {fds : List (Str × D)} : H a = some (.ins C dx fs) → ¬ N a → fs.map (·.1) = fds.map (·.1) → DdAll K N W H (fs.map (·.2)) (fds.map (·.2)) → Dd K N W H (.ref a) (.obj C fds)
  | ktp {a : Addr} {o : Obj} {its : Array Value} {n : Nat} {vs : List V} {ds : List D} : K.lookup a = some o → o.cls = .type "tuple" → o.data = .seq its n → its.size ≤ sizeLine → Vals vs its.toList → DdAll K N W H vs ds → Dd K N W H (.ref a) (.ktp ds)
  | bag {b s : Addr} {T : List (Addr × Str)} : W = some (b, s, T) → Dd K N W H (.ref b) .bag
inductive DdAll (K : PySem.W.Frag) (N : Addr → Prop) (W : Wd) (H : Hp) : List V → List D → Prop
  | nil : DdAll K N W H [] []
  | cons {v : V} {d : D} {vs : List V} {ds : List D} : Dd K N W H v d → DdAll K N W H vs ds → DdAll K N W H (v :: vs) (d :: ds)
end
section
variable {K : PySem.W.Frag} {N N' : Addr → Prop} {W : Wd} {H H' : Hp}
theorem rd_keep {a : Addr} {o : HO} (k : ∀ o, H a = some o → H' a = some o) (h : Rd H a o) : Rd H' a o := by
  rcases h with h | ⟨u, h⟩
  · exact .inl (k _ h)
  · exact .inr ⟨u, k _ h⟩
mutual
theorem Dd.pres (k : ∀ a o, ¬ N a → H a = some o → ¬ N' a ∧ H' a = some o) : ∀ {v : V} {d : D}, Dd K N W H v d → Dd K N' W H' v d
  | _, _, .non => .non
  | _, _, .bl b => .bl b
  | _, _, .int i => .int i
  | _, _, .str x => .str x
  | _, _, .lst h q a => .lst (k _ _ q h).2 (k _ _ q h).1 (DdAll.pres k a)
  | _, _, .tup h q a => .tup (k _ _ q h).2 (k _ _ q h).1 (DdAll.pres k a)
  | _, _, .ktp h1 h2 h3 h4 h5 a => .ktp h1 h2 h3 h4 h5 (DdAll.pres k a)
  | _, _, .dic h q e a => .dic (rd_keep (fun o g => (k _ o q g).2) h) (by rcases h with h | ⟨u, h⟩ <;> exact (k _ _ q h).1) e (DdAll.pres k a)
  | _, _, .dct h q e a => .dct (rd_keep (fun o g => (k _ o q g).2) h) (by rcases h with h | ⟨u, h⟩ <;> exact (k _ _ q h).1) e (DdAll.pres k a)
  | _, _, .obj h q e a => .obj (k _ _ q h).2 (k _ _ q h).1 e (DdAll.pres k a)
  | _, _, .bag e => .bag e
theorem DdAll.pres (k : ∀ a o, ¬ N a → H a = some o → ¬ N' a ∧ H' a = some o) : ∀ {vs : List V} {ds : List D}, DdAll K N W H vs ds → DdAll K N' W H' vs ds
  | _, _, .nil => .nil
  | _, _, .cons h a => .cons (Dd.pres k h) (DdAll.pres k a)
end
theorem Dd.keep (k : ∀ a o, ¬ N a → H a = some o → H' a = some o) (n : ∀ a, N' a → N a) {v : V} {d : D} (h : Dd K N W H v d) : Dd K N' W H' v d := h.pres fun a o q g => ⟨fun z => q (n a z), k a o q g⟩
theorem DdAll.keep (k : ∀ a o, ¬ N a → H a = some o → H' a = some o) (n : ∀ a, N' a → N a) {v : List V} {d : List D} (h : DdAll K N W H v d) : DdAll K N' W H' v d := h.pres fun a o q g => ⟨fun z => q (n a z), k a o q g⟩
theorem DdAll.len : ∀ {vs : List V} {ds : List D}, DdAll K N W H vs ds → vs.length = ds.length
  | _, _, .nil => rfl
  | _, _, .cons _ a => congrArg Nat.succ (DdAll.len a)
theorem DdAll.get : ∀ {vs : List V} {ds : List D} {i : Nat} {d : D}, DdAll K N W H vs ds → ds[i]? = some d → ∃ v, vs[i]? = some v ∧ Dd K N W H v d
  | _, _, _, _, .nil, h => by simp at h
  | _, _, 0, _, .cons (v := v) q _, h => by
    have e := Option.some.inj h
    exact ⟨v, rfl, e ▸ q⟩
  | _, _, i + 1, _, .cons _ a, h => DdAll.get (i := i) a h
theorem DdAll.app : ∀ {vs us : List V} {ds es : List D}, DdAll K N W H vs ds → DdAll K N W H us es → DdAll K N W H (vs ++ us) (ds ++ es)
  | _, _, _, _, .nil, b => b
  | _, _, _, _, .cons h a, b => .cons h (DdAll.app a b)
theorem DdAll.drop : ∀ {vs : List V} {ds : List D} (n : Nat), DdAll K N W H vs ds → DdAll K N W H (vs.drop n) (ds.drop n)
  | _, _, 0, a => a
  | _, _, _ + 1, .nil => .nil
  | _, _, n + 1, .cons _ a => DdAll.drop n a
theorem DdAll.take : ∀ {vs : List V} {ds : List D} (n : Nat), DdAll K N W H vs ds → DdAll K N W H (vs.take n) (ds.take n)
  | _, _, 0, _ => .nil
  | _, _, _ + 1, .nil => .nil
  | _, _, n + 1, .cons h a => .cons h (DdAll.take n a)
theorem DdAll.set : ∀ {vs : List V} {ds : List D} (i : Nat) {v : V} {d : D}, DdAll K N W H vs ds → Dd K N W H v d → DdAll K N W H (vs.set i v) (ds.set i d)
  | _, _, _, _, _, .nil, _ => .nil
  | _, _, 0, _, _, .cons _ a, q => .cons q a
  | _, _, i + 1, _, _, .cons h a, q => .cons h (DdAll.set i a q)
theorem DdAll.eraseIdx : ∀ {vs : List V} {ds : List D} (i : Nat), DdAll K N W H vs ds → DdAll K N W H (vs.eraseIdx i) (ds.eraseIdx i)
  | _, _, _, .nil => .nil
  | _, _, 0, .cons _ a => a
  | _, _, i + 1, .cons h a => .cons h (DdAll.eraseIdx i a)
end
inductive En where
  | no | fz (d : D) | ow (ds : List D) | od (kvs : List (Key × D)) | ot (kvs : List (List Key × D))
def En.isOw : En → Bool
  | .ow _ => true | .od _ => true | .ot _ => true | _ => false
abbrev De := List En
def KeepW (W : Wd) (H H' : Hp) : Prop := ∀ a o, ¬ W.own a → H a = some o → H' a = some o
theorem KeepW.refl (W : Wd) (H : Hp) : KeepW W H H := fun _ _ _ h => h
theorem KeepW.trans {W : Wd} {H H1 H2 : Hp} (a : KeepW W H H1) (b : KeepW W H1 H2) : KeepW W H H2 := fun x o n h => b x o n (a x o n h)
theorem KeepW.new {W : Wd} {H : Hp} {p : Addr} {o : HO} (h : H p = none) : KeepW W H (upd H p o) := fun b u _ q => by rw [upd_ne (ne_of_none q h)]; exact q
theorem ok_new {W : Wd} {H : Hp} {p : Addr} {o : HO} (k : W.ok H) (h : H p = none) (n : Ntb o := by exact True.intro) : W.ok (upd H p o) := Wd.st k (fun b u q _ => by rw [upd_ne (ne_of_none q h)]; exact q) (noT_upd n)
inductive Fr where
  | b (x : Bool) | ch (j : Nat)
instance : Coe Bool Fr := ⟨Fr.b⟩
def Ch (j : Nat) (H H' : Hp) (v : V) (x : D) : Prop := ∀ xs ys, x = .tup xs → xs[j]? = some (.lst ys) → ∃ t vs c us, v = .ref t ∧ H' t = some (.tup vs) ∧ vs[j]? = some (.ref c) ∧ H c = none ∧ H' c = some (.lst us)
structure Fx where
  K : PySem.W.Frag
  W : Wd
  N0 : Addr → Prop
  H0 : Hp
  fr : Fr
def Fx.N (F : Fx) (L : List Addr) : Addr → Prop := fun a => F.N0 a ∨ a ∈ L
def EnOk (F : Fx) (L : List Addr) (H : Hp) : En → Option V → Prop
  | .no, _ => True
  | .fz d, some v => Dd F.K (F.N L) F.W H v d
  | .ow ds, some (.ref a) => a ∈ L ∧ ∃ vs, H a = some (.lst vs) ∧ DdAll F.K (F.N L) F.W H vs ds
  | .od kds, some (.ref a) => a ∈ L ∧ ∃ kvs, H a = some (.dK kvs) ∧ kvs.map (·.1) = kds.map (·.1) ∧ DdAll F.K (F.N L) F.W H (kvs.map (·.2)) (kds.map (·.2))
  | .ot kds, some (.ref a) => a ∈ L ∧ ∃ kvs, H a = some (.dT kvs) ∧ kvs.map (·.1) = kds.map (·.1) ∧ DdAll F.K (F.N L) F.W H (kvs.map (·.2)) (kds.map (·.2))
  | _, _ => False
structure Abs (F : Fx) (env : De) (σ : L2.St) (L : List Addr) (H : Hp) : Prop where
  ok : F.W.ok H
  al : ∀ a, F.N0 a → ∃ o, F.H0 a = some o
  wn : ∀ a, F.W.own a → F.N0 a
  kp : KeepW F.W F.H0 H
  fr : ∀ a ∈ L, F.H0 a = none ∧ ∃ o, H a = some o ∧ Plo o
  ls : env.length = σ.length
  sep : ∀ (i j : Nat) (a : Addr) (ei ej : En), env[i]? = some ei → env[j]? = some ej → ei.isOw = true → ej.isOw = true → σ[i]? = some (some (.ref a)) → σ[j]? = some (some (.ref a)) → i = j
  en : ∀ (i : Nat) (e : En) (x : Option V), env[i]? = some e → σ[i]? = some x → EnOk F L H e x
section
variable {F : Fx} {env : De} {σ : L2.St} {L : List Addr} {H H' : Hp}
theorem Abs.alN (A : Abs F env σ L H) {a : Addr} (h : F.N L a) : ∃ o, H a = some o := by
  rcases h with h | h
  · obtain ⟨o, e⟩ := A.al a h
    by_cases w : F.W.own a
    · exact Wd.al A.ok w
    · exact ⟨o, A.kp a o w e⟩
  · obtain ⟨_, o, e, _⟩ := A.fr a h
    exact ⟨o, e⟩
theorem Abs.new (A : Abs F env σ L H) {p : Addr} (h : H p = none) : ¬ F.N L p := fun z => by
  obtain ⟨o, e⟩ := A.alN z
  rw [h] at e
  cases e
theorem Abs.out (A : Abs F env σ L H) {a : Addr} (h : a ∈ L) : ¬ F.N0 a := fun z => by
  obtain ⟨o, e⟩ := A.al a z
  rw [(A.fr a h).1] at e
  cases e
theorem nw_of (A : Abs F env σ L H) {a : Addr} (h : ¬ F.N L a) : ¬ F.W.own a := fun z => h (.inl (A.wn a z))
theorem KeepW.n (A : Abs F env σ L H) (k : KeepW F.W H H') : ∀ a o, ¬ F.N L a → H a = some o → H' a = some o := fun a o n h => k a o (nw_of A n) h
theorem Abs.kd (A : Abs F env σ L H) (k : KeepW F.W H H') {v : V} {d : D} (h : Dd F.K (F.N L) F.W H v d) : Dd F.K (F.N L) F.W H' v d := h.keep (k.n A) fun _ z => z
theorem Abs.kda (A : Abs F env σ L H) (k : KeepW F.W H H') {v : List V} {d : List D} (h : DdAll F.K (F.N L) F.W H v d) : DdAll F.K (F.N L) F.W H' v d := h.keep (k.n A) fun _ z => z
theorem EnOk.keep {L' : List Addr} (A : Abs F env σ L H) (k : ∀ a o, ¬ F.N L a → H a = some o → H' a = some o) (n : ∀ a, F.N L' a → F.N L a) : ∀ {e : En} {x : Option V}, (∀ a, x = some (.ref a) → e.isOw = true → a ∈ L → a ∈ L' ∧ ∀ o, H a = some o → H' a = some o) → EnOk F L H e x → EnOk F L' H' e x
  | .no, _, _, _ => trivial
  | .fz d, some v, _, h => Dd.keep k n h
  | .ow ds, some (.ref a), g, ⟨h1, vs, h2, h3⟩ => let ⟨g1, g2⟩ := g a rfl rfl h1; ⟨g1, vs, g2 _ h2, DdAll.keep k n h3⟩
  | .od ds, some (.ref a), g, ⟨h1, vs, h2, h4, h3⟩ => let ⟨g1, g2⟩ := g a rfl rfl h1; ⟨g1, vs, g2 _ h2, h4, DdAll.keep k n h3⟩
  | .ot ds, some (.ref a), g, ⟨h1, vs, h2, h4, h3⟩ => let ⟨g1, g2⟩ := g a rfl rfl h1; ⟨g1, vs, g2 _ h2, h4, DdAll.keep k n h3⟩
theorem Abs.step (A : Abs F env σ L H) (k : KeepW F.W H H') (o : F.W.ok H') : Abs F env σ L H' := by
  have w : ∀ a ∈ L, ¬ F.W.own a := fun a h z => A.out h (A.wn a z)
  refine ⟨o, A.al, A.wn, A.kp.trans k, fun a h => ?_, A.ls, A.sep, fun i e x h1 h2 => ?_⟩
  · obtain ⟨h1, u, h2, pl⟩ := A.fr a h
    exact ⟨h1, u, k a u (w a h) h2, pl⟩
  · exact EnOk.keep A (k.n A) (fun _ z => z) (fun a _ _ h => ⟨h, fun o q => k a o (w a h) q⟩) (A.en i e x h1 h2)
end
abbrev TDE := De → (D → Prop) → Prop
abbrev TDT := De → (Bool → Prop) → Prop
abbrev TDA := De → (List D → Prop) → Prop
def lC (F : Fx) (d : TDE) : TE := fun σ H Q => ∃ env L P, Abs F env σ L H ∧ d env P ∧ ∀ x v H', P x → KeepW F.W H H' → F.W.ok H' → Dd F.K (F.N L) F.W H' v x → Q v H'
def NewV (F : Fx) (L : List Addr) (H : Hp) (a : Addr) : D → Prop
  | .lst ds => ∃ vs, H a = some (.lst vs) ∧ DdAll F.K (F.N (a :: L)) F.W H vs ds
  | .tup ds => ∃ vs, H a = some (.tup vs) ∧ DdAll F.K (F.N (a :: L)) F.W H vs ds
  | .dic kds => ∃ kvs, H a = some (.dK kvs) ∧ kvs.map (·.1) = kds.map (·.1) ∧ DdAll F.K (F.N (a :: L)) F.W H (kvs.map (·.2)) (kds.map (·.2))
  | .dct kds => ∃ kvs, H a = some (.dT kvs) ∧ kvs.map (·.1) = kds.map (·.1) ∧ DdAll F.K (F.N (a :: L)) F.W H (kvs.map (·.2)) (kds.map (·.2))
  | _ => False
theorem nl_sub {F : Fx} {L : List Addr} {a : Addr} : ∀ x, F.N L x → F.N (a :: L) x := fun x h => h.imp id (List.mem_cons_of_mem _)
theorem NewV.dd {F : Fx} {L : List Addr} {H : Hp} {a : Addr} (n : ¬ F.N L a) : ∀ {x : D}, NewV F L H a x → Dd F.K (F.N L) F.W H (.ref a) x
  | .lst ds, ⟨vs, h, g⟩ => .lst h n (g.keep (fun _ _ _ z => z) nl_sub)
  | .tup ds, ⟨vs, h, g⟩ => .tup h n (g.keep (fun _ _ _ z => z) nl_sub)
  | .dic ds, ⟨vs, h, e, g⟩ => .dic (.inl h) n e (g.keep (fun _ _ _ z => z) nl_sub)
  | .dct ds, ⟨vs, h, e, g⟩ => .dct (.inl h) n e (g.keep (fun _ _ _ z => z) nl_sub)
def lN (F : Fx) (d : TDE) : TE := fun σ H Q => ∃ env L P, Abs F env σ L H ∧ d env P ∧ ∀ x a H', P x → KeepW F.W H H' → F.W.ok H' → H a = none → NewV F L H' a x → Q (.ref a) H'
def Bw (F : Fx) (L : List Addr) (H : Hp) (v : V) (x : D) : Prop := Dd F.K (F.N L) F.W H v x ∨ ∃ e, e.isOw = true ∧ EnOk F L H e (some v) ∧ x = (match e with | .ow ds => .lst ds | .od ds => .dic ds | .ot ds => .dct ds | _ => .non)
def lB (F : Fx) (d : TDE) : TE := fun σ H Q => ∃ env L P, Abs F env σ L H ∧ d env P ∧ ∀ x v H', P x → KeepW F.W H H' → F.W.ok H' → Bw F L H' v x → Q v H'
def lT (F : Fx) (d : TDT) : TT := fun σ H Q => ∃ env L P, Abs F env σ L H ∧ d env P ∧ ∀ x H', P x → KeepW F.W H H' → F.W.ok H' → Q x H'
def lA (F : Fx) (d : TDA) : TA := fun σ H Q => ∃ env L P, Abs F env σ L H ∧ d env P ∧ ∀ xs vs H', P xs → KeepW F.W H H' → F.W.ok H' → DdAll F.K (F.N L) F.W H' vs xs → Q vs H'
section
variable {X : Cx} {F : Fx} {e a b : Expr} {d da db : TDE}
theorem PE.mono {t t' : TE} (h : PE X e t) (m : ∀ σ H Q, t' σ H Q → t σ H Q) : PE X e t' := ⟨fun pins s σ H Q I q => h.run pins s σ H Q I (m σ H Q q)⟩
theorem PT.mono {t t' : TT} (h : PT X e t) (m : ∀ σ H Q, t' σ H Q → t σ H Q) : PT X e t' := ⟨fun pins s σ H Q I q => h.run pins s σ H Q I (m σ H Q q)⟩
theorem PW.mono {t t' : TT} (h : PW X e t) (m : ∀ σ H Q, t' σ H Q → t σ H Q) : PW X e t' := ⟨fun wh pins s σ H Q I q => h.run wh pins s σ H Q I (m σ H Q q)⟩
theorem PA.mono {es : List Expr} {t t' : TA} (h : PA X es t) (m : ∀ σ H Q, t' σ H Q → t σ H Q) : PA X es t' := ⟨fun pos pins s σ H Q I q => h.run pos pins s σ H Q I (m σ H Q q)⟩
theorem PK.mono {es : List Keyword} {t t' : TA} (h : PK X es t) (m : ∀ σ H Q, t' σ H Q → t σ H Q) : PK X es t' := ⟨fun pos pins s σ H Q I q => h.run pos pins s σ H Q I (m σ H Q q)⟩
theorem PS.mono {st : Stmt} {t t' : TS} (h : PS X st t) (m : ∀ E σ H, t' E σ H → t E σ H) : PS X st t' := ⟨fun pins s σ H E I q => h.run pins s σ H E I (m E σ H q)⟩
theorem PSs.mono {st : List Stmt} {t t' : TS} (h : PSs X st t) (m : ∀ E σ H, t' E σ H → t E σ H) : PSs X st t' := ⟨fun pins s σ H E I q => h.run pins s σ H E I (m E σ H q)⟩
theorem n_c (h : PE X e (lN F d)) : PE X e (lC F d) := PE.mono h fun σ H Q ⟨env, L, P, A, p, q⟩ => ⟨env, L, P, A, p, fun x a H' px k o n dd => q x _ H' px k o (dd.dd (A.new n))⟩
theorem c_b (h : PE X e (lC F d)) : PE X e (lB F d) := PE.mono h fun σ H Q ⟨env, L, P, A, p, q⟩ => ⟨env, L, P, A, p, fun x v H' px k o dd => q x v H' px k o (.inl dd)⟩
def D.leaf : D → Bool
  | .non => true | .bl _ => true | .int _ => true | .str _ => true | _ => false
def dC (x : D) : TDE := fun _ P => P x
theorem c_lift {x : D} {v : V} (h : PE X e (tC v)) (r : ∀ K N W H, Dd K N W H v x) : PE X e (lC F (dC x)) := PE.mono h fun σ H Q ⟨env, L, P, A, p, q⟩ => q x v H p (.refl _ _) A.ok (r _ _ _ _)
theorem dd_int {i : Int} {j} {pos : Pos} : PE X (.Constant (.int i) j pos) (lC F (dC (.int i))) := c_lift pe_int fun _ _ _ _ => .int i
theorem dd_str {i : Str} {j} {pos : Pos} : PE X (.Constant (.str i) j pos) (lC F (dC (.str i))) := c_lift pe_str fun _ _ _ _ => .str i
theorem dd_bl {i : Bool} {j} {pos : Pos} : PE X (.Constant (.bool i) j pos) (lC F (dC (.bl i))) := c_lift pe_bl fun _ _ _ _ => .bl i
theorem dd_non {j} {pos : Pos} : PE X (.Constant .none j pos) (lC F (dC .non)) := c_lift pe_non fun _ _ _ _ => .non
def dV (i : Nat) : TDE := fun env P => match env[i]? with | some (.fz d) => P d | _ => False
def dB (i : Nat) : TDE := fun env P => match env[i]? with | some (.fz d) => P d | some (.ow ds) => P (.lst ds) | some (.od ds) => P (.dic ds) | some (.ot ds) => P (.dct ds) | _ => False
theorem abs_at {env : De} {σ : L2.St} {L : List Addr} {H : Hp} (A : Abs F env σ L H) {i : Nat} {e : En} (h : env[i]? = some e) (n : e ≠ .no) : ∃ v, σ[i]? = some (some v) ∧ EnOk F L H e (some v) := by
  have hi : i < σ.length := by rw [← A.ls]; exact (List.getElem?_eq_some_iff.mp h).1
  have h2 := A.en i e σ[i] h (List.getElem?_eq_getElem hi)
  cases q : σ[i] with
  | none =>
    rw [q] at h2
    cases e with
    | no => exact absurd rfl n
    | _ => exact h2.elim
  | some v =>
    rw [q] at h2
    exact ⟨v, by rw [List.getElem?_eq_getElem hi, q], h2⟩
theorem dd_v {i : Nat} (h : PE X e (tVar i)) : PE X e (lC F (dV i)) := PE.mono h fun σ H Q ⟨env, L, P, A, p, q⟩ => by
  unfold dV at p
  cases z : env[i]? with
  | none => rw [z] at p; exact p.elim
  | some en =>
    rw [z] at p
    cases en with
    | fz d =>
      obtain ⟨v, h1, h2⟩ := abs_at A z (by intro w; cases w)
      exact ⟨v, h1, q d v H p (.refl _ _) A.ok h2⟩
    | _ => exact p.elim
theorem dd_b {i : Nat} (h : PE X e (tVar i)) : PE X e (lB F (dB i)) := PE.mono h fun σ H Q ⟨env, L, P, A, p, q⟩ => by
  unfold dB at p
  cases z : env[i]? with
  | none => rw [z] at p; exact p.elim
  | some en =>
    rw [z] at p
    cases en with
    | no => exact p.elim
    | fz d =>
      obtain ⟨v, h1, h2⟩ := abs_at A z (by intro w; cases w)
      exact ⟨v, h1, q d v H p (.refl _ _) A.ok (.inl h2)⟩
    | _ =>
      obtain ⟨v, h1, h2⟩ := abs_at A z (by intro w; cases w)
      exact ⟨v, h1, q _ v H p (.refl _ _) A.ok (.inr ⟨_, rfl, h2, rfl⟩)⟩
end
end DL
namespace DL
open PySem PySem.Spec PyProof.Rows L2 RK
def ob {α : Type} (o : Option α) (P : α → Prop) : Prop := match o with | some z => P z | none => False
theorem ob_some {α : Type} {z : α} {P : α → Prop} : ob (some z) P = P z := rfl
theorem ob_elim {α : Type} {o : Option α} {P : α → Prop} (h : ob o P) : ∃ z, o = some z ∧ P z := by
  cases o with
  | none => exact h.elim
  | some z => exact ⟨z, rfl, h⟩
mutual
def toPy : D → Option PyData
  | .non => some .none
  | .bl b => some (.bool b)
  | .int i => some (.int i)
  | .str x => some (.str x)
  | .lst xs => (toPyA xs).map .list
  | .tup xs => (toPyA xs).map .tuple
  | _ => none
def toPyA : List D → Option (List PyData)
  | [] => some []
  | d :: ds => (toPy d).bind fun p => (toPyA ds).map fun ps => p :: ps
end
section
variable {K : PySem.W.Frag} {N : Addr → Prop} {W : Wd} {H H' : Hp}
mutual
theorem Dd.py : ∀ {v : V} {d : D} {p : PyData}, Dd K N W H v d → toPy d = some p → Dp K H v p
  | _, _, _, .non, e => by cases Option.some.inj e; exact .non
  | _, _, _, .bl b, e => by cases Option.some.inj e; exact .bl b
  | _, _, _, .int i, e => by cases Option.some.inj e; exact .int i
  | _, _, _, .str x, e => by cases Option.some.inj e; exact .str x
  | _, _, _, .lst h _ a, e => by
    obtain ⟨ps, h1, h2⟩ := Option.map_eq_some_iff.mp e
    subst h2
    exact .lst (SqL.of h) (DdAll.py a h1)
  | _, _, _, .tup h _ a, e => by
    obtain ⟨ps, h1, h2⟩ := Option.map_eq_some_iff.mp e
    subst h2
    exact .tup (SqT.of h) (DdAll.py a h1)
  | _, _, _, .ktp .., e => by cases e
  | _, _, _, .dic .., e => by cases e
  | _, _, _, .dct .., e => by cases e
  | _, _, _, .obj .., e => by cases e
  | _, _, _, .bag .., e => by cases e
theorem DdAll.py : ∀ {vs : List V} {ds : List D} {ps : List PyData}, DdAll K N W H vs ds → toPyA ds = some ps → DpAll K H vs ps
  | _, _, _, .nil, e => by cases Option.some.inj e; exact .nil
  | _, _, _, .cons h a, e => by
    obtain ⟨p, h1, h2⟩ := Option.bind_eq_some_iff.mp e
    obtain ⟨ps, h3, h4⟩ := Option.map_eq_some_iff.mp h2
    subst h4
    exact .cons (Dd.py h h1) (DdAll.py a h3)
end
theorem dd_intE {v : V} {i : Int} (h : Dd K N W H v (.int i)) : v = .int i := by cases h; rfl
theorem dd_strE {v : V} {i : Str} (h : Dd K N W H v (.str i)) : v = .str i := by cases h; rfl
theorem dd_blE {v : V} {i : Bool} (h : Dd K N W H v (.bl i)) : v = .bl i := by cases h; rfl
theorem dd_nonE {v : V} (h : Dd K N W H v .non) : v = .non := by cases h; rfl
theorem dd_lstE {v : V} {ds : List D} (h : Dd K N W H v (.lst ds)) : ∃ a vs, v = .ref a ∧ H a = some (.lst vs) ∧ ¬ N a ∧ DdAll K N W H vs ds := by cases h with | lst h1 h2 h3 => exact ⟨_, _, rfl, h1, h2, h3⟩
theorem dd_tupE {v : V} {ds : List D} (h : Dd K N W H v (.tup ds)) : ∃ a vs, v = .ref a ∧ H a = some (.tup vs) ∧ ¬ N a ∧ DdAll K N W H vs ds := by cases h with | tup h1 h2 h3 => exact ⟨_, _, rfl, h1, h2, h3⟩
end
section
variable {F : Fx} {env : De} {σ : L2.St} {L : List Addr} {H H' : Hp}
theorem bw_leaf {v : V} {x : D} (h : Bw F L H v x) (l : x.leaf = true) : Dd F.K (F.N L) F.W H v x := by
  rcases h with h | ⟨e, h1, h2, rfl⟩
  · exact h
  · cases e with
    | no => cases h1
    | fz _ => cases h1
    | ow _ => cases l
    | od _ => cases l
    | ot _ => cases l
theorem bw_int {v : V} {i : Int} (h : Bw F L H v (.int i)) : v = .int i := dd_intE (bw_leaf h rfl)
theorem bw_str {v : V} {i : Str} (h : Bw F L H v (.str i)) : v = .str i := dd_strE (bw_leaf h rfl)
theorem bw_bl {v : V} {i : Bool} (h : Bw F L H v (.bl i)) : v = .bl i := dd_blE (bw_leaf h rfl)
theorem bw_non {v : V} (h : Bw F L H v .non) : v = .non := dd_nonE (bw_leaf h rfl)
theorem bw_lst {v : V} {ds : List D} (h : Bw F L H v (.lst ds)) : ∃ a vs, v = .ref a ∧ H a = some (.lst vs) ∧ DdAll F.K (F.N L) F.W H vs ds := by
  rcases h with h | ⟨e, h1, h2, h3⟩
  · obtain ⟨a, vs, h1, h2, _, h3⟩ := dd_lstE h
    exact ⟨a, vs, h1, h2, h3⟩
  · cases e with
    | ow es =>
      cases h3
      cases v with
      | ref a => exact ⟨a, h2.2.choose, rfl, h2.2.choose_spec⟩
      | _ => exact h2.elim
    | no => cases h1
    | fz _ => cases h1
    | od _ => cases h3
    | ot _ => cases h3
theorem bw_tup {v : V} {ds : List D} (h : Bw F L H v (.tup ds)) : ∃ a vs, v = .ref a ∧ H a = some (.tup vs) ∧ DdAll F.K (F.N L) F.W H vs ds := by
  rcases h with h | ⟨e, h1, h2, h3⟩
  · obtain ⟨a, vs, h1, h2, _, h3⟩ := dd_tupE h
    exact ⟨a, vs, h1, h2, h3⟩
  · cases e with
    | no => cases h1
    | fz _ => cases h1
    | ow _ => cases h3
    | od _ => cases h3
    | ot _ => cases h3
theorem bw_dic {v : V} {ds : List (Key × D)} (h : Bw F L H v (.dic ds)) : ∃ a kvs, v = .ref a ∧ Rd H a (.dK kvs) ∧ kvs.map (·.1) = ds.map (·.1) ∧ DdAll F.K (F.N L) F.W H (kvs.map (·.2)) (ds.map (·.2)) := by
  rcases h with h | ⟨e, h1, h2, h3⟩
  · cases h with | dic g1 g2 g3 g4 => exact ⟨_, _, rfl, g1, g3, g4⟩
  · cases e with
    | od es =>
      cases h3
      cases v with
      | ref a =>
        obtain ⟨_, kvs, g1, g2, g3⟩ := h2
        exact ⟨a, kvs, rfl, .inl g1, g2, g3⟩
      | _ => exact h2.elim
    | no => cases h1
    | fz _ => cases h1
    | ow _ => cases h3
    | ot _ => cases h3
theorem bw_dct {v : V} {ds : List (List Key × D)} (h : Bw F L H v (.dct ds)) : ∃ a kvs, v = .ref a ∧ Rd H a (.dT kvs) ∧ kvs.map (·.1) = ds.map (·.1) ∧ DdAll F.K (F.N L) F.W H (kvs.map (·.2)) (ds.map (·.2)) := by
  rcases h with h | ⟨e, h1, h2, h3⟩
  · cases h with | dct g1 g2 g3 g4 => exact ⟨_, _, rfl, g1, g3, g4⟩
  · cases e with
    | ot es =>
      cases h3
      cases v with
      | ref a =>
        obtain ⟨_, kvs, g1, g2, g3⟩ := h2
        exact ⟨a, kvs, rfl, .inl g1, g2, g3⟩
      | _ => exact h2.elim
    | no => cases h1
    | fz _ => cases h1
    | ow _ => cases h3
    | od _ => cases h3
theorem bw_py {v : V} {d : D} {p : PyData} (h : Bw F L H v d) (e : toPy d = some p) : Dp F.K H v p := by
  rcases h with h | ⟨en, h1, h2, h3⟩
  · exact h.py e
  · cases en with
    | ow es =>
      have hh : Bw F L H v (.lst es) := .inr ⟨.ow es, rfl, h2, rfl⟩
      obtain ⟨a, vs, rfl, g2, g3⟩ := bw_lst hh
      subst h3
      obtain ⟨ps, h1, h2⟩ := Option.map_eq_some_iff.mp e
      subst h2
      exact .lst (SqL.of g2) (g3.py h1)
    | no => cases h1
    | fz _ => cases h1
    | od _ => subst h3; cases e
    | ot _ => subst h3; cases e
theorem Bw.step (A : Abs F env σ L H) (k : KeepW F.W H H') {v : V} {x : D} (h : Bw F L H v x) : Bw F L H' v x := by
  rcases h with h | ⟨e, h1, h2, h3⟩
  · exact .inl (A.kd k h)
  · have w : ∀ a ∈ L, ¬ F.W.own a := fun a h z => A.out h (A.wn a z)
    exact .inr ⟨e, h1, EnOk.keep A (k.n A) (fun _ z => z) (fun a _ _ h => ⟨h, fun o q => k a o (w a h) q⟩) h2, h3⟩
theorem new_pres (A : Abs F env σ L H) {p : Addr} {o : HO} (hp : H p = none) {vs : List V} {ds : List D} (h : DdAll F.K (F.N L) F.W H vs ds) : DdAll F.K (F.N (p :: L)) F.W (upd H p o) vs ds := h.pres fun a u n g => by
  have ne : a ≠ p := ne_of_none g hp
  refine ⟨fun z => ?_, by rw [upd_ne ne]; exact g⟩
  rcases z with z | z
  · exact n (.inl z)
  · rcases List.mem_cons.mp z with z | z
    · exact ne z
    · exact n (.inr z)
theorem new_lstN (A : Abs F env σ L H) {p : Addr} (hp : H p = none) {vs : List V} {ds : List D} (h : DdAll F.K (F.N L) F.W H vs ds) : NewV F L (upd H p (.lst vs)) p (.lst ds) := ⟨vs, upd_same, new_pres A hp h⟩
theorem new_tupN (A : Abs F env σ L H) {p : Addr} (hp : H p = none) {vs : List V} {ds : List D} (h : DdAll F.K (F.N L) F.W H vs ds) : NewV F L (upd H p (.tup vs)) p (.tup ds) := ⟨vs, upd_same, new_pres A hp h⟩
theorem new_lst (A : Abs F env σ L H) {p : Addr} (hp : H p = none) {vs : List V} {ds : List D} (h : DdAll F.K (F.N L) F.W H vs ds) : Dd F.K (F.N L) F.W (upd H p (.lst vs)) (.ref p) (.lst ds) := .lst upd_same (A.new hp) (A.kda (KeepW.new hp) h)
theorem new_tup (A : Abs F env σ L H) {p : Addr} (hp : H p = none) {vs : List V} {ds : List D} (h : DdAll F.K (F.N L) F.W H vs ds) : Dd F.K (F.N L) F.W (upd H p (.tup vs)) (.ref p) (.tup ds) := .tup upd_same (A.new hp) (A.kda (KeepW.new hp) h)
end
abbrev B2 := D → D → Option D
def Op2 (F : Fx) (r : R2) (f : B2) : Prop := ∀ {env : De} {σ : L2.St} {L : List Addr} {H : Hp} {x y : V} {dx dy z : D}, Abs F env σ L H → Bw F L H x dx → Bw F L H y dy → f dx dy = some z →
  ∀ Q : VK, (∀ v H', KeepW F.W H H' → F.W.ok H' → Dd F.K (F.N L) F.W H' v z → Q v H') → r x y H Q
def Op2N (F : Fx) (r : R2) (f : B2) : Prop := ∀ {env : De} {σ : L2.St} {L : List Addr} {H : Hp} {x y : V} {dx dy z : D}, Abs F env σ L H → Bw F L H x dx → Bw F L H y dy → f dx dy = some z →
  ∀ Q : VK, (∀ a H', KeepW F.W H H' → F.W.ok H' → H a = none → NewV F L H' a z → Q (.ref a) H') → r x y H Q
def dO2 (f : B2) (da db : TDE) : TDE := fun env P => da env fun x => db env fun y => ob (f x y) P
section
variable {X : Cx} {F : Fx} {e a b c : Expr} {d da db dc : TDE} {pos : Pos} {f g : B2} {r r' : R2}
theorem lop2 (h : Op2 F r f) : ∀ σ H Q, lC F (dO2 f da db) σ H Q → tOp r (lB F da) (lB F db) σ H Q := fun σ H Q ⟨env, L, P, A, p, q⟩ =>
  ⟨env, L, _, A, p, fun x v H1 px k1 o1 b1 => ⟨env, L, _, A.step k1 o1, px, fun y u H2 py k2 o2 b2 => by
    obtain ⟨z, e, pz⟩ := ob_elim py
    exact h ((A.step k1 o1).step k2 o2) (b1.step (A.step k1 o1) k2) b2 e Q fun w H3 k3 o3 d3 => q z w H3 pz ((k1.trans k2).trans k3) o3 d3⟩⟩
theorem dd_op {op : Operator} (h : Op2 F r f) (ho : OpR X (binaryOp op) r) (ha : PE X a (lB F da)) (hb : PE X b (lB F db)) : PE X (.BinOp a op b pos) (lC F (dO2 f da db)) := PE.mono (pe_op ho ha hb) (lop2 h)
theorem dd_cmp {op : CmpOp} (h : Op2 F r f) (ho : OpR X (compareOp op) r) (ha : PE X a (lB F da)) (hb : PE X b (lB F db)) (hm : behindInMarks op b = false) : PE X (.Compare a [op] [b] pos) (lC F (dO2 f da db)) := PE.mono (pe_cmpR ho ha hb hm) (lop2 h)
def dT (d : TDE) : TDT := fun env P => d env fun x => match x with | .bl b => P b | _ => False
theorem l_test : ∀ σ H Q, lT F (dT d) σ H Q → tTest (lC F d) σ H Q := fun σ H Q ⟨env, L, P, A, p, q⟩ =>
  ⟨env, L, _, A, p, fun x v H1 px k1 o1 d1 => by
    cases x with
    | bl b => cases d1; exact ⟨b, rfl, q b H1 px k1 o1⟩
    | _ => exact px.elim⟩
theorem dt_val (h : PE X e (lC F d)) (he : ∀ whole, isTrue e X.env whole = (do let v ← whole; standAt e.pos; holding [v] (truthy v)) := by intro _; rfl) : PT X e (lT F (dT d)) := PT.mono (pt_val h he) fun σ H Q q => l_test σ H Q q
theorem dt_cmp {op : CmpOp} (h : Op2 F r f) (ho : OpR X (compareOp op) r) (ha : PE X a (lB F da)) (hb : PE X b (lB F db)) (hm : behindInMarks op b = false) : PT X (.Compare a [op] [b] pos) (lT F (dT (dO2 f da db))) :=
  PT.mono (pt_cmpR ho ha hb hm) fun σ H Q ⟨env, L, P, A, p, q⟩ => lop2 h σ H _ ⟨env, L, _, A, p, fun x v H1 px k1 o1 d1 => by
    cases x with
    | bl b => cases d1; exact ⟨b, rfl, q b H1 px k1 o1⟩
    | _ => exact px.elim⟩
def dAndT (t u : TDT) : TDT := fun env P => t env fun x => if x = true then u env P else P false
def dOrT (t u : TDT) : TDT := fun env P => t env fun x => if x = true then P true else u env P
def dNotT (t : TDT) : TDT := fun env P => t env fun x => P (!x)
variable {tA tB : TDT} {rest : List Expr}
theorem wt_and1 (ha : PT X a (lT F tA)) : PW X (.BoolOp .And [a] pos) (lT F tA) := pw_and1 ha
theorem wt_or1 (ha : PT X a (lT F tA)) : PW X (.BoolOp .Or [a] pos) (lT F tA) := pw_or1 ha
theorem wt_and (ha : PT X a (lT F tA)) (hb : PW X (.BoolOp .And (b :: rest) pos) (lT F tB)) : PW X (.BoolOp .And (a :: b :: rest) pos) (lT F (dAndT tA tB)) :=
  PW.mono (pw_and ha hb) fun σ H Q ⟨env, L, P, A, p, q⟩ => ⟨env, L, _, A, p, fun x H1 px k1 o1 => by
    cases x with
    | true => exact iteT ⟨env, L, _, A.step k1 o1, px, fun y H2 py k2 o2 => q y H2 py (k1.trans k2) o2⟩
    | false => exact iteF (q false H1 px k1 o1)⟩
theorem wt_or (ha : PT X a (lT F tA)) (hb : PW X (.BoolOp .Or (b :: rest) pos) (lT F tB)) : PW X (.BoolOp .Or (a :: b :: rest) pos) (lT F (dOrT tA tB)) :=
  PW.mono (pw_or ha hb) fun σ H Q ⟨env, L, P, A, p, q⟩ => ⟨env, L, _, A, p, fun x H1 px k1 o1 => by
    cases x with
    | false => exact iteF ⟨env, L, _, A.step k1 o1, px, fun y H2 py k2 o2 => q y H2 py (k1.trans k2) o2⟩
    | true => exact iteT (q true H1 px k1 o1)⟩
theorem dt_not (ha : PT X a (lT F tA)) : PT X (.UnaryOp .Not a pos) (lT F (dNotT tA)) :=
  PT.mono (pt_not ha) fun σ H Q ⟨env, L, P, A, p, q⟩ => ⟨env, L, _, A, p, fun x H1 px k1 o1 => q (!x) H1 px k1 o1⟩
def dIf (t : TDT) (da db : TDE) : TDE := fun env P => t env fun x => if x = true then da env P else db env P
theorem dd_if (hc : PT X c (lT F tA)) (ha : PE X a (lC F da)) (hb : PE X b (lC F db)) : PE X (.IfExp c a b pos) (lC F (dIf tA da db)) :=
  PE.mono (pe_ifExp hc ha hb) fun σ H Q ⟨env, L, P, A, p, q⟩ => ⟨env, L, _, A, p, fun x H1 px k1 o1 => by
    cases x with
    | false => exact iteF ⟨env, L, _, A.step k1 o1, px, fun y v H2 py k2 o2 d2 => q y v H2 py (k1.trans k2) o2 d2⟩
    | true => exact iteT ⟨env, L, _, A.step k1 o1, px, fun y v H2 py k2 o2 d2 => q y v H2 py (k1.trans k2) o2 d2⟩⟩
def dAndV (da db : TDE) : TDE := fun env P => da env fun x => match x with | .bl b => if b = true then db env P else P (.bl false) | _ => False
def dOrV (da db : TDE) : TDE := fun env P => da env fun x => match x with | .bl b => if b = true then P (.bl true) else db env P | _ => False
def dNotV (da : TDE) : TDE := fun env P => da env fun x => match x with | .bl b => P (.bl (!b)) | _ => False
theorem dd_one {op} (ha : PE X a (lC F da)) : PE X (.BoolOp op [a] pos) (lC F da) := pe_one ha
theorem dd_and (ha : PE X a (lC F da)) (hb : PE X (.BoolOp .And (b :: rest) pos) (lC F db)) : PE X (.BoolOp .And (a :: b :: rest) pos) (lC F (dAndV da db)) :=
  PE.mono (pe_and ha hb) fun σ H Q ⟨env, L, P, A, p, q⟩ => ⟨env, L, _, A, p, fun x v H1 px k1 o1 d1 => by
    cases x with
    | bl b =>
      cases d1
      refine ⟨b, rfl, ?_⟩
      cases b with
      | true => exact iteT ⟨env, L, _, A.step k1 o1, px, fun y v H2 py k2 o2 d2 => q y v H2 py (k1.trans k2) o2 d2⟩
      | false => exact iteF (q _ _ H1 px k1 o1 (.bl false))
    | _ => exact px.elim⟩
theorem dd_not (ha : PE X a (lC F da)) : PE X (.UnaryOp .Not a pos) (lC F (dNotV da)) :=
  PE.mono (pe_not ha) fun σ H Q ⟨env, L, P, A, p, q⟩ => ⟨env, L, _, A, p, fun x v H1 px k1 o1 d1 => by
    cases x with
    | bl b => cases d1; exact ⟨b, rfl, q _ _ H1 px k1 o1 (.bl _)⟩
    | _ => exact px.elim⟩
end
end DL
namespace DL
open PySem PySem.Spec PyProof.Rows L2 RK
theorem guard_elim {α : Type} {c : Prop} [Decidable c] {x z : α} (h : (if c then some x else none) = some z) : c ∧ x = z := by
  by_cases hc : c
  · rw [if_pos hc] at h
    exact ⟨hc, Option.some.inj h⟩
  · rw [if_neg hc] at h
    cases h
section
variable {X : Cx} {F : Fx} {e a b c : Expr} {d da db dc : TDE} {pos : Pos}
theorem Op2.or {r r' : R2} {f g : B2} (h : Op2 F r f) (h' : Op2 F r' g) : Op2 F (fun x y H Q => r x y H Q ∨ r' x y H Q) (fun x y => (f x y).or (g x y)) := fun A bx byy e Q q => by
  rename_i dx dy z
  replace e : (f dx dy).or (g dx dy) = some z := e
  cases hf : f dx dy with
  | some z' =>
    rw [hf] at e
    exact .inl (h A bx byy (hf.trans e) Q q)
  | none =>
    rw [hf] at e
    exact .inr (h' A bx byy e Q q)
def iI (C : Int → Int → Bool) (g : Int → Int → D) : B2
  | .int i, .int j => if C i j = true then some (g i j) else none
  | _, _ => none
theorem iI_ok {C : Int → Int → Bool} {C' : Int → Int → Prop} {g : Int → Int → D} {gV : Int → Int → V} (hC : ∀ i j, C i j = true → C' i j) (hg : ∀ i j K N W H, Dd K N W H (gV i j) (g i j)) : Op2 F (rI C' gV) (iI C g) := fun A bx byy e Q q => by
  rename_i dx dy z
  cases dx <;> try cases e
  cases dy <;> try cases e
  rename_i i j
  have hx := bw_int bx
  have hy := bw_int byy
  subst hx hy
  obtain ⟨hc, rfl⟩ := guard_elim e
  exact ⟨i, j, rfl, rfl, hC i j hc, q _ _ (.refl _ _) A.ok (hg i j _ _ _ _)⟩
def iI0 (g : Int → Int → D) : B2
  | .int i, .int j => some (g i j)
  | _, _ => none
theorem iI0_ok {g : Int → Int → D} {gV : Int → Int → V} (hg : ∀ i j K N W H, Dd K N W H (gV i j) (g i j)) : Op2 F (rI0 gV) (iI0 g) := fun A bx byy e Q q => by
  rename_i dx dy z
  cases dx <;> try cases e
  cases dy <;> try cases e
  rename_i i j
  have hx := bw_int bx
  have hy := bw_int byy
  subst hx hy
  exact ⟨i, j, rfl, rfl, q _ _ (.refl _ _) A.ok (hg i j _ _ _ _)⟩
def bCat : B2
  | .lst xs, .lst ys => if xs.length + ys.length ≤ sizeLine then some (.lst (xs ++ ys)) else none
  | _, _ => none
theorem cat_okN : Op2N F rCat bCat := fun A bx byy e Q q => by
  rename_i dx dy z
  cases dx <;> try cases e
  cases dy <;> try cases e
  rename_i xs ys
  obtain ⟨l, vs, rfl, h1, h2⟩ := bw_lst bx
  obtain ⟨m, us, rfl, h3, h4⟩ := bw_lst byy
  obtain ⟨hc, rfl⟩ := guard_elim e
  exact ⟨l, m, vs, us, rfl, rfl, h1, h3, by rw [h2.len, h4.len]; exact hc, fun p hp => q p _ (.new hp) (ok_new A.ok hp) hp (new_lstN A hp (h2.app h4))⟩
theorem op2n_c {r : R2} {f : B2} (h : Op2N F r f) : Op2 F r f := fun A bx byy e Q q => h A bx byy e Q fun a H' k o n d => q _ _ k o (d.dd (A.new n))
def bCatS : B2
  | .str x, .str y => if x.length + y.length ≤ sizeLine then some (.str (x ++ y)) else none
  | _, _ => none
theorem catS_ok : Op2 F (fun x y H Q => ∃ i j, x = .str i ∧ y = .str j ∧ i.length + j.length ≤ sizeLine ∧ Q (.str (i ++ j)) H) bCatS := fun A bx byy e Q q => by
  rename_i dx dy z
  cases dx <;> try cases e
  cases dy <;> try cases e
  rename_i xs ys
  have hx := bw_str bx
  have hy := bw_str byy
  subst hx hy
  obtain ⟨hc, rfl⟩ := guard_elim e
  exact ⟨xs, ys, rfl, rfl, hc, q _ _ (.refl _ _) A.ok (.str _)⟩
def bRep : B2
  | .lst xs, .int k => if -(2 ^ 63) ≤ k ∧ k < 2 ^ 63 ∧ xs.length * k.toNat ≤ sizeLine then some (.lst (List.replicate k.toNat xs).flatten) else none
  | _, _ => none
theorem DdAll.rep {K : PySem.W.Frag} {N : Addr → Prop} {W : Wd} {H : Hp} {vs : List V} {ds : List D} (h : DdAll K N W H vs ds) : ∀ n : Nat, DdAll K N W H (List.replicate n vs).flatten (List.replicate n ds).flatten
  | 0 => .nil
  | n + 1 => by
    rw [List.replicate_succ, List.replicate_succ, List.flatten_cons, List.flatten_cons]
    exact h.app (DdAll.rep h n)
def bAdd : B2 := fun x y => (iI0 (fun i j => .int (i + j)) x y).or ((bCatS x y).or (bCat x y))
theorem dd_add (ha : PE X a (lB F da)) (hb : PE X b (lB F db)) : PE X (.BinOp a .Add b pos) (lC F (dO2 bAdd da db)) :=
  dd_op (Op2.or (iI0_ok fun i j _ _ _ _ => .int _) (Op2.or catS_ok (op2n_c cat_okN))) (op_add.or (op_add_str.or op_cat)) ha hb
def bSub : B2 := iI0 fun i j => .int (i - j)
theorem dd_sub (ha : PE X a (lB F da)) (hb : PE X b (lB F db)) : PE X (.BinOp a .Sub b pos) (lC F (dO2 bSub da db)) := dd_op (iI0_ok fun i j _ _ _ _ => .int _) op_sub ha hb
def bMod : B2 := iI (fun _ j => decide (0 < j)) fun i j => .int (i % j)
theorem dd_mod (ha : PE X a (lB F da)) (hb : PE X b (lB F db)) : PE X (.BinOp a .Mod b pos) (lC F (dO2 bMod da db)) := dd_op (iI_ok (fun i j h => of_decide_eq_true h) fun i j _ _ _ _ => .int _) op_mod ha hb
def bPow : B2 := iI (fun i j => decide (0 ≤ j ∧ j ≤ 1000000 ∧ i.natAbs < 2 ^ 64)) fun i j => .int (i ^ j.toNat)
theorem dd_pow (ha : PE X a (lB F da)) (hb : PE X b (lB F db)) : PE X (.BinOp a .Pow b pos) (lC F (dO2 bPow da db)) := dd_op (iI_ok (C' := CPow) (fun i j h => by have h' := of_decide_eq_true h; exact h') fun i j _ _ _ _ => .int _) op_pow ha hb
def bMulI : B2 := iI (fun i j => decide ((-(2 ^ 64) < i ∧ i < 2 ^ 64) ∨ (-(2 ^ 64) < j ∧ j < 2 ^ 64))) fun i j => .int (i * j)
theorem rep_okN : Op2N F rRep bRep := fun A bx byy e Q q => by
  rename_i dx dy z
  cases dx <;> try cases e
  cases dy <;> try cases e
  rename_i xs k
  obtain ⟨l, vs, rfl, h1, h2⟩ := bw_lst bx
  have hy := bw_int byy
  subst hy
  obtain ⟨hc, rfl⟩ := guard_elim e
  exact ⟨l, k, vs, rfl, rfl, h1, hc.1, hc.2.1, by rw [h2.len]; exact hc.2.2, fun p hp => q p _ (.new hp) (ok_new A.ok hp) hp (new_lstN A hp (h2.rep _))⟩
def bRepS : B2
  | .str x, .int n => match x.cps.toList with | [c] => if 1 ≤ n ∧ n ≤ 1000 then some (.str (PySem.Txt.mul ⟨#[c]⟩ n)) else none | _ => none
  | _, _ => none
theorem repS_ok : Op2 F (fun x y H Q => ∃ (c : Nat) (n : Int), x = .str ⟨#[c]⟩ ∧ y = .int n ∧ 1 ≤ n ∧ n ≤ 1000 ∧ Q (.str (PySem.Txt.mul ⟨#[c]⟩ n)) H) bRepS := fun A bx byy e Q q => by
  rename_i dx dy z
  cases dx <;> try cases e
  cases dy <;> try cases e
  rename_i x n
  have hx := bw_str bx
  have hy := bw_int byy
  subst hx hy
  obtain ⟨⟨l⟩⟩ := x
  match l, e with
  | [c], e =>
    obtain ⟨hc, rfl⟩ := guard_elim e
    exact ⟨c, n, rfl, rfl, hc.1, hc.2, q _ _ (.refl _ _) A.ok (.str _)⟩
  | [], e => cases e
  | _ :: _ :: _, e => cases e
def bMul : B2 := fun x y => (bMulI x y).or ((bRep x y).or (bRepS x y))
theorem dd_mul (ha : PE X a (lB F da)) (hb : PE X b (lB F db)) : PE X (.BinOp a .Mult b pos) (lC F (dO2 bMul da db)) :=
  dd_op (Op2.or (iI_ok (C' := CMul) (fun i j h => by have h' := of_decide_eq_true h; exact h') fun i j _ _ _ _ => .int _) (Op2.or (op2n_c rep_okN) repS_ok)) (op_mul.or (op_rep.or op_mul_str)) ha hb
def bLtS : B2
  | .str x, .str y => some (.bl (decide (x.cps.toList < y.cps.toList)))
  | _, _ => none
theorem ltS_ok : Op2 F (fun x y H Q => ∃ i j, x = .str i ∧ y = .str j ∧ Q (.bl (decide (i.cps.toList < j.cps.toList))) H) bLtS := fun A bx byy e Q q => by
  rename_i dx dy z
  cases dx <;> try cases e
  cases dy <;> try cases e
  have hx := bw_str bx
  have hy := bw_str byy
  subst hx hy
  exact ⟨_, _, rfl, rfl, q _ _ (.refl _ _) A.ok (.bl _)⟩
def bLt : B2 := fun x y => (iI0 (fun i j => .bl (decide (i < j))) x y).or (bLtS x y)
theorem dd_lt (ha : PE X a (lB F da)) (hb : PE X b (lB F db)) : PE X (.Compare a [.Lt] [b] pos) (lC F (dO2 bLt da db)) := dd_cmp (Op2.or (iI0_ok fun i j _ _ _ _ => .bl _) ltS_ok) (op_lt.or op_lt_str) ha hb (nomark _)
theorem dt_lt (ha : PE X a (lB F da)) (hb : PE X b (lB F db)) : PT X (.Compare a [.Lt] [b] pos) (lT F (dT (dO2 bLt da db))) := dt_cmp (Op2.or (iI0_ok fun i j _ _ _ _ => .bl _) ltS_ok) (op_lt.or op_lt_str) ha hb (nomark _)
def bLe : B2 := iI0 fun i j => .bl (decide (i ≤ j))
def eqS (neg : Bool) : B2
  | .int i, .int j => some (.bl (neg ^^ decide (i = j)))
  | .str i, .str j => some (.bl (neg ^^ decide (i = j)))
  | .bl i, .bl j => some (.bl (neg ^^ decide (i = j)))
  | _, _ => none
def eqP (neg : Bool) : B2 := fun x y => match toPy x, toPy y with
  | some p, some q => if SeqAt.shaped p = true ∧ SeqAt.shaped q = true then some (.bl (neg ^^ PyData.eqv p q)) else none
  | _, _ => none
def bEqN (neg : Bool) : B2 := fun x y => (eqS neg x y).or (eqP neg x y)
theorem eqS_ok : Op2 F rEq (eqS false) := fun A bx byy e Q q => by
  rename_i dx dy z
  cases dx <;> try cases e
  all_goals cases dy <;> try cases e
  · have hx := bw_bl bx
    have hy := bw_bl byy
    subst hx hy
    exact ⟨rfl, by simpa using q (.bl _) _ (.refl _ _) A.ok (.bl _)⟩
  · have hx := bw_int bx
    have hy := bw_int byy
    subst hx hy
    exact ⟨rfl, by simpa using q (.bl _) _ (.refl _ _) A.ok (.bl _)⟩
  · have hx := bw_str bx
    have hy := bw_str byy
    subst hx hy
    exact ⟨rfl, by simpa using q (.bl _) _ (.refl _ _) A.ok (.bl _)⟩
theorem neS_ok : Op2 F rNe (eqS true) := fun A bx byy e Q q => by
  rename_i dx dy z
  cases dx <;> try cases e
  all_goals cases dy <;> try cases e
  · have hx := bw_bl bx
    have hy := bw_bl byy
    subst hx hy
    exact ⟨rfl, by simpa using q (.bl _) _ (.refl _ _) A.ok (.bl _)⟩
  · have hx := bw_int bx
    have hy := bw_int byy
    subst hx hy
    exact ⟨rfl, by simpa using q (.bl _) _ (.refl _ _) A.ok (.bl _)⟩
  · have hx := bw_str bx
    have hy := bw_str byy
    subst hx hy
    exact ⟨rfl, by simpa using q (.bl _) _ (.refl _ _) A.ok (.bl _)⟩
theorem eqP_elim {neg : Bool} {dx dy z : D} (e : eqP neg dx dy = some z) : ∃ p q, toPy dx = some p ∧ toPy dy = some q ∧ SeqAt.shaped p = true ∧ SeqAt.shaped q = true ∧ z = .bl (neg ^^ PyData.eqv p q) := by
  unfold eqP at e
  cases h1 : toPy dx with
  | none => rw [h1] at e; cases e
  | some p =>
    cases h2 : toPy dy with
    | none => rw [h1, h2] at e; cases e
    | some q =>
      rw [h1, h2] at e
      by_cases hc : SeqAt.shaped p = true ∧ SeqAt.shaped q = true
      · simp only [if_pos hc] at e
        cases e
        exact ⟨p, q, rfl, rfl, hc.1, hc.2, rfl⟩
      · simp only [if_neg hc] at e
        cases e
theorem eqP_ok : Op2 F (rEqD F.K) (eqP false) := fun A bx byy e Q q => by
  obtain ⟨p1, p2, h1, h2, s1, s2, rfl⟩ := eqP_elim e
  exact ⟨p1, p2, bw_py bx h1, bw_py byy h2, s1, s2, q _ _ (.refl _ _) A.ok (by rw [Bool.false_xor]; exact .bl _)⟩
theorem neP_ok : Op2 F (rNeD F.K) (eqP true) := fun A bx byy e Q q => by
  obtain ⟨p1, p2, h1, h2, s1, s2, rfl⟩ := eqP_elim e
  exact ⟨p1, p2, bw_py bx h1, bw_py byy h2, s1, s2, q _ _ (.refl _ _) A.ok (by rw [Bool.true_xor]; exact .bl _)⟩
variable {k : Nat}
theorem eqR (hr : Room k X.A) (hK : F.K = X.K) : OpR X (compareOp .Eq) (fun x y H Q => rEq x y H Q ∨ rEqD F.K x y H Q) := by
  rw [hK]
  exact op_eq.or (op_eqD hr.units)
theorem neR (hr : Room k X.A) (hK : F.K = X.K) : OpR X (compareOp .NotEq) (fun x y H Q => rNe x y H Q ∨ rNeD F.K x y H Q) := by
  rw [hK]
  exact op_ne.or (op_neD hr.units)
theorem dd_eq (hr : Room k X.A) (ha : PE X a (lB F da)) (hb : PE X b (lB F db)) (hK : F.K = X.K := by rfl) : PE X (.Compare a [.Eq] [b] pos) (lC F (dO2 (bEqN false) da db)) := dd_cmp (Op2.or eqS_ok eqP_ok) (eqR hr hK) ha hb (nomark _)
theorem dt_eq (hr : Room k X.A) (ha : PE X a (lB F da)) (hb : PE X b (lB F db)) (hK : F.K = X.K := by rfl) : PT X (.Compare a [.Eq] [b] pos) (lT F (dT (dO2 (bEqN false) da db))) := dt_cmp (Op2.or eqS_ok eqP_ok) (eqR hr hK) ha hb (nomark _)
theorem dd_ne (hr : Room k X.A) (ha : PE X a (lB F da)) (hb : PE X b (lB F db)) (hK : F.K = X.K := by rfl) : PE X (.Compare a [.NotEq] [b] pos) (lC F (dO2 (bEqN true) da db)) := dd_cmp (Op2.or neS_ok neP_ok) (neR hr hK) ha hb (nomark _)
theorem dt_ne (hr : Room k X.A) (ha : PE X a (lB F da)) (hb : PE X b (lB F db)) (hK : F.K = X.K := by rfl) : PT X (.Compare a [.NotEq] [b] pos) (lT F (dT (dO2 (bEqN true) da db))) := dt_cmp (Op2.or neS_ok neP_ok) (neR hr hK) ha hb (nomark _)
def D.isN : D → Bool
  | .non => true | _ => false
def bIsN (neg : Bool) : B2
  | x, .non => some (.bl (neg ^^ x.isN))
  | _, _ => none
theorem isN_iff {L : List Addr} {H : Hp} {v : V} {x : D} (h : Bw F L H v x) : decide (v = .non) = x.isN := by
  cases x with
  | non => rw [bw_non h]; rfl
  | bl _ => rw [bw_bl h]; rfl
  | int _ => rw [bw_int h]; rfl
  | str _ => rw [bw_str h]; rfl
  | lst _ => obtain ⟨a, vs, rfl, _⟩ := bw_lst h; rfl
  | tup _ => obtain ⟨a, vs, rfl, _⟩ := bw_tup h; rfl
  | dic _ => obtain ⟨a, vs, rfl, _⟩ := bw_dic h; rfl
  | dct _ => obtain ⟨a, vs, rfl, _⟩ := bw_dct h; rfl
  | ktp _ =>
    rcases h with h | ⟨e, h1, h2, h3⟩
    · cases h; rfl
    · cases e <;> cases h3
  | obj _ _ =>
    rcases h with h | ⟨e, h1, h2, h3⟩
    · cases h; rfl
    · cases e <;> cases h3
  | bag =>
    rcases h with h | ⟨e, h1, h2, h3⟩
    · cases h; rfl
    · cases e <;> cases h3
theorem isN_ok : Op2 F (fun x y H Q => y = .non ∧ Q (.bl (decide (x = .non))) H) (bIsN false) := fun A bx byy e Q q => by
  rename_i dx dy z
  cases dy <;> try cases e
  exact ⟨bw_non byy, by rw [isN_iff bx]; simpa using q (.bl _) _ (.refl _ _) A.ok (.bl _)⟩
theorem notN_ok : Op2 F (fun x y H Q => y = .non ∧ Q (.bl (!decide (x = .non))) H) (bIsN true) := fun A bx byy e Q q => by
  rename_i dx dy z
  cases dy <;> try cases e
  exact ⟨bw_non byy, by rw [isN_iff bx]; simpa using q (.bl _) _ (.refl _ _) A.ok (.bl _)⟩
theorem dt_is (ha : PE X a (lB F da)) (hb : PE X b (lB F db)) : PT X (.Compare a [.Is] [b] pos) (lT F (dT (dO2 (bIsN false) da db))) := dt_cmp isN_ok op_isN ha hb (nomark _)
theorem dd_isnot (ha : PE X a (lB F da)) (hb : PE X b (lB F db)) : PE X (.Compare a [.IsNot] [b] pos) (lC F (dO2 (bIsN true) da db)) := dd_cmp notN_ok op_notN ha hb (nomark _)
end
end DL
namespace DL
open PySem PySem.Spec PyProof.Rows L2 RK
def valD {κ : Type} [DecidableEq κ] (kds : List (κ × D)) (k : κ) : Option D := (kds.find? fun kv => decide (kv.1 = k)).map (·.2)
def putD {κ : Type} [DecidableEq κ] (kds : List (κ × D)) (k : κ) (v : D) : List (κ × D) :=
  if (kds.any fun kv => decide (kv.1 = k)) = true then kds.map (fun kv => if kv.1 = k then (kv.1, v) else kv) else kds ++ [(k, v)]
section
variable {K : PySem.W.Frag} {N : Addr → Prop} {W : Wd} {H H' : Hp} {κ : Type} [DecidableEq κ]
theorem val_rel {k : κ} : ∀ {kvs : List (κ × V)} {kds : List (κ × D)}, kvs.map (·.1) = kds.map (·.1) → DdAll K N W H (kvs.map (·.2)) (kds.map (·.2)) →
    (valV kvs k = none ∧ valD kds k = none) ∨ ∃ v d, valV kvs k = some v ∧ valD kds k = some d ∧ Dd K N W H v d
  | [], [], _, _ => .inl ⟨rfl, rfl⟩
  | [], _ :: _, e, _ => by cases e
  | _ :: _, [], e, _ => by cases e
  | (k1, v) :: kvs, (k2, d) :: kds, e, .cons h a => by
    have e1 : k1 = k2 := (List.cons.inj e).1
    have e2 := (List.cons.inj e).2
    subst e1
    by_cases hk : k1 = k
    · exact .inr ⟨v, d, by simp [valV, List.find?_cons, hk], by simp [valD, List.find?_cons, hk], h⟩
    · rcases val_rel (k := k) e2 a with ⟨h1, h2⟩ | ⟨v', d', h1, h2, h3⟩
      · left
        constructor
        · simpa [valV, List.find?_cons, hk] using h1
        · simpa [valD, List.find?_cons, hk] using h2
      · refine .inr ⟨v', d', ?_, ?_, h3⟩
        · simpa [valV, List.find?_cons, hk] using h1
        · simpa [valD, List.find?_cons, hk] using h2
theorem any_rel {k : κ} : ∀ {kvs : List (κ × V)} {kds : List (κ × D)}, kvs.map (·.1) = kds.map (·.1) → (kvs.any fun kv => decide (kv.1 = k)) = kds.any fun kv => decide (kv.1 = k)
  | [], [], _ => rfl
  | [], _ :: _, e => by cases e
  | _ :: _, [], e => by cases e
  | (k1, v) :: kvs, (k2, d) :: kds, e => by
    have e1 : k1 = k2 := (List.cons.inj e).1
    have ih := any_rel (k := k) (List.cons.inj e).2
    subst e1
    simp [List.any_cons, ih]
theorem put_rel {k : κ} {v : V} {d : D} {kvs : List (κ × V)} {kds : List (κ × D)} (e : kvs.map (·.1) = kds.map (·.1)) (a : DdAll K N W H (kvs.map (·.2)) (kds.map (·.2))) (h : Dd K N W H v d) :
    (putK kvs k v).map (·.1) = (putD kds k d).map (·.1) ∧ DdAll K N W H ((putK kvs k v).map (·.2)) ((putD kds k d).map (·.2)) := by
  unfold putK putD
  rw [any_rel e]
  split
  · have key : ∀ {kvs : List (κ × V)} {kds : List (κ × D)}, kvs.map (·.1) = kds.map (·.1) → DdAll K N W H (kvs.map (·.2)) (kds.map (·.2)) →
        (kvs.map (fun kv => if kv.1 = k then (kv.1, v) else kv)).map (·.1) = (kds.map (fun kv => if kv.1 = k then (kv.1, d) else kv)).map (·.1) ∧
        DdAll K N W H ((kvs.map (fun kv => if kv.1 = k then (kv.1, v) else kv)).map (·.2)) ((kds.map (fun kv => if kv.1 = k then (kv.1, d) else kv)).map (·.2)) := by
      intro kvs
      induction kvs with
      | nil =>
        intro kds e a
        cases kds with
        | nil => exact ⟨rfl, .nil⟩
        | cons _ _ => cases e
      | cons p kvs ih =>
        intro kds e a
        cases kds with
        | nil => cases e
        | cons p' kds =>
          obtain ⟨k1, v1⟩ := p
          obtain ⟨k2, d1⟩ := p'
          cases a with
          | cons h1 a =>
            have e1 : k1 = k2 := (List.cons.inj e).1
            subst e1
            obtain ⟨i1, i2⟩ := ih (List.cons.inj e).2 a
            by_cases hk : k1 = k
            · simp only [List.map_cons, if_pos hk]
              exact ⟨by rw [i1], .cons h i2⟩
            · simp only [List.map_cons, if_neg hk]
              exact ⟨by rw [i1], .cons h1 i2⟩
    exact key e a
  · rw [List.map_append, List.map_append, List.map_append, List.map_append, e]
    exact ⟨rfl, a.app (.cons h .nil)⟩
end
def keyD : D → Option Key
  | .int i => some (.inl i)
  | .str x => some (.inr x)
  | _ => none
def keysD : List D → Option (List Key)
  | [] => some []
  | d :: ds => (keyD d).bind fun k => (keysD ds).map fun ks => k :: ks
theorem keyD_v {F : Fx} {L : List Addr} {H : Hp} {v : V} {d : D} {k : Key} (b : Bw F L H v d) (e : keyD d = some k) : v = kV k := by
  cases d <;> cases e
  · exact bw_int b
  · exact bw_str b
theorem keysD_v {K : PySem.W.Frag} {N : Addr → Prop} {W : Wd} {H : Hp} : ∀ {vs : List V} {ds : List D} {ks : List Key}, DdAll K N W H vs ds → keysD ds = some ks → vs = ks.map kV
  | _, _, _, .nil, e => by cases e; rfl
  | _, _, _, .cons (v := v) (d := d) h a, e => by
    obtain ⟨k, h1, h2⟩ := Option.bind_eq_some_iff.mp e
    obtain ⟨ks, h3, h4⟩ := Option.map_eq_some_iff.mp h2
    subst h4
    rw [keysD_v a h3]
    cases d <;> cases h1
    · rw [dd_intE h]; rfl
    · rw [dd_strE h]; rfl
def getD : D → D → Option (Option D)
  | .dic kds, y => (keyD y).map fun k => valD kds k
  | .dct kds, .tup ys => (keysD ys).map fun k => valD kds k
  | _, _ => none
theorem getD_ok {F : Fx} {L : List Addr} {H : Hp} {x y : V} {dx dy : D} {r : Option D} (bx : Bw F L H x dx) (bb : Bw F L H y dy) (e : getD dx dy = some r) :
    ∃ a o, x = .ref a ∧ DGet H a y o ∧ ((o = none ∧ r = none) ∨ ∃ v d, o = some v ∧ r = some d ∧ Dd F.K (F.N L) F.W H v d) := by
  cases dx with
  | dic kds =>
    obtain ⟨a, kvs, rfl, h1, h2, h3⟩ := bw_dic bx
    obtain ⟨k, e1, e2⟩ := Option.map_eq_some_iff.mp e
    have hy := keyD_v bb e1
    subst hy e2
    exact ⟨a, valV kvs k, rfl, .inl ⟨kvs, k, h1, rfl, rfl⟩, val_rel h2 h3⟩
  | dct kds =>
    cases dy with
    | tup ys =>
      obtain ⟨a, kvs, rfl, h1, h2, h3⟩ := bw_dct bx
      obtain ⟨b, vs, rfl, g1, g2⟩ := bw_tup bb
      obtain ⟨k, e1, e2⟩ := Option.map_eq_some_iff.mp e
      have hy := keysD_v g2 e1
      subst hy e2
      exact ⟨a, valV kvs k, rfl, .inr ⟨kvs, k, b, h1, rfl, g1, rfl⟩, val_rel h2 h3⟩
    | _ => cases e
  | _ => cases e
def eqF : D → D → Bool
  | .non, .non => true
  | .bl a, .bl b => a == b
  | .bl a, .int b => (if a then 1 else 0) == b
  | .int a, .bl b => a == (if b then 1 else 0)
  | .int a, .int b => a == b
  | .str a, .str b => a == b
  | _, _ => false
def itemsD : D → Option (List D)
  | .lst xs => some xs
  | .tup xs => some xs
  | .ktp xs => some xs
  | _ => none
def inFlat (neg : Bool) : B2 := fun x y => (itemsD y).bind fun ys => if x.leaf = true ∧ ys.all D.leaf = true then some (.bl (neg ^^ ys.any fun y => eqF y x)) else none
def inDeep (neg : Bool) : B2 := fun x y => match toPy x, toPy y with
  | some p, some (.list ps) => if SeqAt.shaped p = true ∧ SeqAt.shaped (.list ps) = true then some (.bl (neg ^^ ps.any fun z => PyData.eqv z p)) else none
  | _, _ => none
def inDict (neg : Bool) : B2 := fun x y => (getD y x).map fun r => .bl (neg ^^ r.isSome)
def inSign (neg : Bool) : B2
  | .str x, .str z => match x.cps.toList with | [c] => some (.bl (neg ^^ decide (c ∈ z.cps.toList))) | _ => none
  | _, _ => none
def bIn (neg : Bool) : B2 := fun x y => (inFlat neg x y).or ((inDict neg x y).or ((inSign neg x y).or (inDeep neg x y)))
theorem leaf_flat {K : PySem.W.Frag} {N : Addr → Prop} {W : Wd} {H : Hp} {v : V} {d : D} (h : Dd K N W H v d) (l : d.leaf = true) : flatV v = true := by cases h <;> first | rfl | cases l
theorem leaf_eq {K : PySem.W.Frag} {N : Addr → Prop} {W : Wd} {H : Hp} {v u : V} {d e : D} (h : Dd K N W H v d) (l : d.leaf = true) (h' : Dd K N W H u e) (l' : e.leaf = true) : eqV v u = eqF d e := by
  cases h <;> cases h' <;> first | rfl | cases l | cases l'
theorem all_leaf {K : PySem.W.Frag} {N : Addr → Prop} {W : Wd} {H : Hp} {v : V} {d : D} (h : Dd K N W H v d) (l : d.leaf = true) : ∀ {vs : List V} {ds : List D}, DdAll K N W H vs ds → ds.all D.leaf = true → vs.all flatV = true ∧ inV v vs = ds.any fun y => eqF y d
  | _, _, .nil, _ => ⟨rfl, rfl⟩
  | _, _, .cons g a, q => by
    rw [List.all_cons, Bool.and_eq_true] at q
    obtain ⟨i1, i2⟩ := all_leaf h l a q.2
    refine ⟨by rw [List.all_cons, leaf_flat g q.1, i1]; rfl, ?_⟩
    unfold inV at i2 ⊢
    rw [List.any_cons, List.any_cons, i2, leaf_eq g q.1 h l]
section
variable {X : Cx} {F : Fx} {e a b c : Expr} {d da db dc : TDE} {pos : Pos}
theorem bw_items {L : List Addr} {H : Hp} {v : V} {y : D} {ys : List D} (h : Bw F L H v y) (e : itemsD y = some ys) : ∃ a vs, v = .ref a ∧ (SqL F.K H a vs ∨ SqT F.K H a vs) ∧ DdAll F.K (F.N L) F.W H vs ys := by
  cases y <;> cases e
  · obtain ⟨a, vs, rfl, h1, h2⟩ := bw_lst h
    exact ⟨a, vs, rfl, .inl (SqL.of h1), h2⟩
  · obtain ⟨a, vs, rfl, h1, h2⟩ := bw_tup h
    exact ⟨a, vs, rfl, .inr (SqT.of h1), h2⟩
  · rcases h with h | ⟨e, h1, h2, h3⟩
    · cases h with | ktp h1 h2 h3 h4 h5 h6 => exact ⟨_, _, rfl, .inr (.inr ⟨_, _, _, h1, h2, h3, h4, h5⟩), h6⟩
    · cases e <;> cases h3
theorem inFlat_ok (neg : Bool) : Op2 F (rIn F.K neg) (inFlat neg) := fun A bx byy e Q q => by
  obtain ⟨ys, h1, h2⟩ := Option.bind_eq_some_iff.mp e
  obtain ⟨⟨l1, l2⟩, rfl⟩ := guard_elim h2
  obtain ⟨p, vs, rfl, g1, g2⟩ := bw_items byy h1
  have dx := bw_leaf bx l1
  obtain ⟨i1, i2⟩ := all_leaf dx l1 g2 l2
  refine ⟨p, vs, rfl, g1, leaf_flat dx l1, i1, ?_⟩
  rw [i2]
  cases neg
  · rw [Bool.false_xor] at q
    exact q _ _ (.refl _ _) A.ok (.bl _)
  · rw [Bool.true_xor] at q
    exact q _ _ (.refl _ _) A.ok (.bl _)
theorem inDeep_elim {neg : Bool} {dx dy z : D} (e : inDeep neg dx dy = some z) : ∃ p ps, toPy dx = some p ∧ toPy dy = some (.list ps) ∧ SeqAt.shaped p = true ∧ SeqAt.shaped (.list ps) = true ∧ z = .bl (neg ^^ ps.any fun z => PyData.eqv z p) := by
  unfold inDeep at e
  cases h1 : toPy dx with
  | none => rw [h1] at e; cases e
  | some p =>
    cases h2 : toPy dy with
    | none => rw [h1, h2] at e; cases e
    | some q =>
      rw [h1, h2] at e
      cases q with
      | list ps =>
        obtain ⟨hc, rfl⟩ := guard_elim e
        exact ⟨p, ps, rfl, rfl, hc.1, hc.2, rfl⟩
      | _ => cases e
theorem inDeep_ok : Op2 F (rInD F.K) (inDeep false) := fun A bx byy e Q q => by
  obtain ⟨p1, p2, h1, h2, s1, s2, rfl⟩ := inDeep_elim e
  exact ⟨p1, p2, bw_py bx h1, bw_py byy h2, s1, s2, q _ _ (.refl _ _) A.ok (by rw [Bool.false_xor]; exact .bl _)⟩
theorem notInDeep_ok : Op2 F (rNotInD F.K) (inDeep true) := fun A bx byy e Q q => by
  obtain ⟨p1, p2, h1, h2, s1, s2, rfl⟩ := inDeep_elim e
  exact ⟨p1, p2, bw_py bx h1, bw_py byy h2, s1, s2, q _ _ (.refl _ _) A.ok (by rw [Bool.true_xor]; exact .bl _)⟩
def rDIn (neg : Bool) : R2 := fun x y H Q => ∃ a o, y = .ref a ∧ DGet H a x o ∧ Q (.bl (neg ^^ o.isSome)) H
theorem op_dIn (hu : X.A.units + 1 < cLine) : OpR X (compareOp .In) (rDIn false) := fun pins s σ H x y v u Q I rx ry h => by
  obtain ⟨a, o, rfl, g, q⟩ := h
  cases ry
  exact d_in hu I g rx fun s' I' => ⟨.bl _, H, I', rfl, by simpa using q⟩
theorem op_dNotIn (hu : X.A.units + 1 < cLine) : OpR X (compareOp .NotIn) (rDIn true) := fun pins s σ H x y v u Q I rx ry h => by
  obtain ⟨a, o, rfl, g, q⟩ := h
  cases ry
  exact d_notIn hu I g rx fun s' I' => ⟨.bl _, H, I', rfl, by simpa using q⟩
theorem inDict_ok (neg : Bool) : Op2 F (rDIn neg) (inDict neg) := fun A bx byy e Q q => by
  obtain ⟨r, h1, rfl⟩ := Option.map_eq_some_iff.mp e
  obtain ⟨a, o, rfl, g, h⟩ := getD_ok byy bx h1
  refine ⟨a, o, rfl, g, ?_⟩
  have : o.isSome = r.isSome := by
    rcases h with ⟨rfl, rfl⟩ | ⟨v, d, rfl, rfl, _⟩ <;> rfl
  rw [this]
  exact q _ _ (.refl _ _) A.ok (.bl _)
theorem inSign_ok (neg : Bool) : Op2 F (fun x y H Q => ∃ (c : Nat) (z : Str), x = .str ⟨#[c]⟩ ∧ y = .str z ∧ Q (.bl (neg ^^ decide (c ∈ z.cps.toList))) H) (inSign neg) := fun A bx byy e Q q => by
  rename_i dx dy z
  cases dx <;> try cases e
  cases dy <;> try cases e
  rename_i x y
  have hx := bw_str bx
  have hy := bw_str byy
  subst hx hy
  obtain ⟨⟨l⟩⟩ := x
  match l, e with
  | [c], e =>
    cases e
    exact ⟨c, y, rfl, rfl, q _ _ (.refl _ _) A.ok (.bl _)⟩
  | [], e => cases e
  | _ :: _ :: _, e => cases e
theorem op_inSg : OpR X (compareOp .In) (fun x y H Q => ∃ (c : Nat) (z : Str), x = .str ⟨#[c]⟩ ∧ y = .str z ∧ Q (.bl (false ^^ decide (c ∈ z.cps.toList))) H) := fun pins s σ H x y v u Q I rx ry ⟨c, z, e1, e2, q⟩ => op_in_sign pins s σ H x y v u Q I rx ry ⟨c, z, e1, e2, by rw [Bool.false_xor] at q; exact q⟩
theorem op_notInSg : OpR X (compareOp .NotIn) (fun x y H Q => ∃ (c : Nat) (z : Str), x = .str ⟨#[c]⟩ ∧ y = .str z ∧ Q (.bl (true ^^ decide (c ∈ z.cps.toList))) H) := fun pins s σ H x y v u Q I rx ry ⟨c, z, e1, e2, q⟩ => op_notIn_sign pins s σ H x y v u Q I rx ry ⟨c, z, e1, e2, by rw [Bool.true_xor] at q; exact q⟩
variable {k : Nat}
theorem u65' (hr : Room k X.A) : X.A.units + 65 < cLine := by have := hr.un; omega
theorem inR (hr : Room k X.A) (hK : F.K = X.K) : OpR X (compareOp .In) (fun x y H Q => rIn F.K false x y H Q ∨ (rDIn false x y H Q ∨ ((∃ (c : Nat) (z : Str), x = .str ⟨#[c]⟩ ∧ y = .str z ∧ Q (.bl (false ^^ decide (c ∈ z.cps.toList))) H) ∨ rInD F.K x y H Q))) := by
  rw [hK]
  exact op_in_seq.or ((op_dIn (hu_of hr)).or (op_inSg.or (op_inD (u65' hr))))
theorem notInR (hr : Room k X.A) (hK : F.K = X.K) : OpR X (compareOp .NotIn) (fun x y H Q => rIn F.K true x y H Q ∨ (rDIn true x y H Q ∨ ((∃ (c : Nat) (z : Str), x = .str ⟨#[c]⟩ ∧ y = .str z ∧ Q (.bl (true ^^ decide (c ∈ z.cps.toList))) H) ∨ rNotInD F.K x y H Q))) := by
  rw [hK]
  exact op_notIn_seq.or ((op_dNotIn (hu_of hr)).or (op_notInSg.or (op_notInD (u65' hr))))
theorem dd_in (hr : Room k X.A) (ha : PE X a (lB F da)) (hb : PE X b (lB F db)) (hm : behindInMarks .In b = false := by rfl) (hK : F.K = X.K := by rfl) : PE X (.Compare a [.In] [b] pos) (lC F (dO2 (bIn false) da db)) :=
  dd_cmp (Op2.or (inFlat_ok false) (Op2.or (inDict_ok false) (Op2.or (inSign_ok false) inDeep_ok))) (inR hr hK) ha hb hm
theorem dt_notin (hr : Room k X.A) (ha : PE X a (lB F da)) (hb : PE X b (lB F db)) (hm : behindInMarks .NotIn b = false := by rfl) (hK : F.K = X.K := by rfl) : PT X (.Compare a [.NotIn] [b] pos) (lT F (dT (dO2 (bIn true) da db))) :=
  dt_cmp (Op2.or (inFlat_ok true) (Op2.or (inDict_ok true) (Op2.or (inSign_ok true) notInDeep_ok))) (notInR hr hK) ha hb hm
def dChain (f g : B2) (da db dc : TDE) : TDE := fun env P => da env fun x => db env fun y => ob (f x y) fun z => match z with | .bl true => dc env fun w => ob (g y w) P | .bl false => P (.bl false) | _ => False
end
section
variable {X : Cx} {F : Fx} {e a b c : Expr} {es : List Expr} {d da db dc : TDE} {ds : TDA} {pos : Pos}
def aNil : TDA := fun _ P => P []
def aCons (d : TDE) (ds : TDA) : TDA := fun env P => d env fun x => ds env fun xs => P (x :: xs)
theorem l_nil : ∀ σ H Q, lA F aNil σ H Q → tNil σ H Q := fun σ H Q ⟨env, L, P, A, p, q⟩ => q [] [] H p (.refl _ _) A.ok .nil
theorem l_cons : ∀ σ H Q, lA F (aCons d ds) σ H Q → tCons (lC F d) (lA F ds) σ H Q := fun σ H Q ⟨env, L, P, A, p, q⟩ =>
  ⟨env, L, _, A, p, fun x v H1 px k1 o1 d1 => ⟨env, L, _, A.step k1 o1, px, fun xs vs H2 pxs k2 o2 d2 => q (x :: xs) (v :: vs) H2 pxs (k1.trans k2) o2 (.cons ((A.step k1 o1).kd k2 d1) d2)⟩⟩
theorem da_nil : PA X [] (lA F aNil) := PA.mono pa_nil l_nil
theorem da_cons (ha : PE X e (lC F d)) (hr : PA X es (lA F ds)) (hs : starEach (e :: es) X.env = (false, eval e X.env) :: starEach es X.env := by rfl) : PA X (e :: es) (lA F (aCons d ds)) := PA.mono (pa_cons ha hr hs) l_cons
def dTup (ds : TDA) : TDE := fun env P => ds env fun xs => xs.length ≤ sizeLine ∧ P (.tup xs)
def dLst (ds : TDA) : TDE := fun env P => ds env fun xs => xs.length ≤ sizeLine ∧ P (.lst xs)
theorem free_of {W : Wd} {H H1 : Hp} (k : KeepW W H H1) (o : W.ok H1) {a : Addr} (h : H1 a = none) : H a = none := by
  cases zz : H a with
  | none => rfl
  | some u =>
    by_cases ow : W.own a
    · obtain ⟨u2, e2⟩ := Wd.al o ow
      rw [h] at e2
      cases e2
    · rw [k a u ow zz] at h
      cases h
theorem dn_tup {x1} (h : PA X es (lA F ds)) : PE X (.Tuple es x1 pos) (lN F (dTup ds)) := PE.mono (pe_tup h) fun σ H Q ⟨env, L, P, A, p, q⟩ =>
  ⟨env, L, _, A, p, fun xs vs H1 pxs k1 o1 d1 => ⟨by rw [d1.len]; exact pxs.1, fun t ht => q _ t _ pxs.2 (k1.trans (.new ht)) (ok_new o1 ht) (free_of k1 o1 ht) (new_tupN (A.step k1 o1) ht d1)⟩⟩
theorem dn_lst (h : PA X es (lA F ds)) : PE X (.List es pos) (lN F (dLst ds)) := PE.mono (pe_lst h) fun σ H Q ⟨env, L, P, A, p, q⟩ =>
  ⟨env, L, _, A, p, fun xs vs H1 pxs k1 o1 d1 => ⟨by rw [d1.len]; exact pxs.1, fun t ht => q _ t _ pxs.2 (k1.trans (.new ht)) (ok_new o1 ht) (free_of k1 o1 ht) (new_lstN (A.step k1 o1) ht d1)⟩⟩
end
end DL
namespace DL
open PySem PySem.Spec PyProof.Rows L2 RK
theorem DdAll.at {K : PySem.W.Frag} {N : Addr → Prop} {W : Wd} {H : Hp} {vs : List V} {ds : List D} {i : Int} {d : D} (a : DdAll K N W H vs ds) (h : atI ds i = some d) : ∃ v, atI vs i = some v ∧ Dd K N W H v d := by
  unfold atI at h ⊢
  rw [a.len]
  obtain ⟨j, h1, h2⟩ := Option.bind_eq_some_iff.mp h
  obtain ⟨v, h3, h4⟩ := a.get h2
  exact ⟨v, by rw [h1]; exact h3, h4⟩
def ixSeq : B2
  | .lst xs, .int i => atI xs i
  | .tup xs, .int i => atI xs i
  | .ktp xs, .int i => atI xs i
  | _, _ => none
def ixStr : B2
  | .str z, .int i => if z.length ≤ sizeLine then (atI z.cps.toList i).map fun c => .str ⟨#[c]⟩ else none
  | _, _ => none
def ixDic : B2 := fun x y => (getD x y).bind fun r => r
def bIx : B2 := fun x y => (ixSeq x y).or ((ixStr x y).or (ixDic x y))
section
variable {X : Cx} {F : Fx} {e a b c : Expr} {d da db dc : TDE} {pos : Pos}
theorem ixSeq_ok : Op2 F (fun x y H Q => rIxL F.K x y H Q ∨ rIxT F.K x y H Q) ixSeq := fun A bx byy e Q q => by
  rename_i dx dy z
  cases dx <;> try cases e
  all_goals cases dy <;> try cases e
  · obtain ⟨p, vs, rfl, h1, h2⟩ := bw_lst bx
    have hy := bw_int byy
    subst hy
    obtain ⟨v, h3, h4⟩ := h2.at e
    exact .inl ⟨p, vs, _, v, rfl, rfl, SqL.of h1, h3, q _ _ (.refl _ _) A.ok h4⟩
  · obtain ⟨p, vs, rfl, h1, h2⟩ := bw_tup bx
    have hy := bw_int byy
    subst hy
    obtain ⟨v, h3, h4⟩ := h2.at e
    exact .inr ⟨p, vs, _, v, rfl, rfl, SqT.of h1, h3, q _ _ (.refl _ _) A.ok h4⟩
  · obtain ⟨p, vs, rfl, h1, h2⟩ := bw_items bx rfl
    have hy := bw_int byy
    subst hy
    obtain ⟨v, h3, h4⟩ := h2.at e
    rcases h1 with h1 | h1
    · exact .inl ⟨p, vs, _, v, rfl, rfl, h1, h3, q _ _ (.refl _ _) A.ok h4⟩
    · exact .inr ⟨p, vs, _, v, rfl, rfl, h1, h3, q _ _ (.refl _ _) A.ok h4⟩
theorem ixStr_ok : Op2 F rIxS ixStr := fun A bx byy e Q q => by
  rename_i dx dy z
  cases dx <;> try cases e
  cases dy <;> try cases e
  rename_i x i
  have hx := bw_str bx
  have hy := bw_int byy
  subst hx hy
  replace e : (if x.length ≤ sizeLine then (atI x.cps.toList i).map fun c => D.str ⟨#[c]⟩ else none) = some z := e
  by_cases hl : x.length ≤ sizeLine
  · rw [if_pos hl] at e
    obtain ⟨c, h1, rfl⟩ := Option.map_eq_some_iff.mp e
    exact ⟨x, i, c, rfl, rfl, hl, h1, q _ _ (.refl _ _) A.ok (.str _)⟩
  · rw [if_neg hl] at e
    cases e
def rDG : R2 := fun x y H Q => ∃ a v, x = .ref a ∧ DGet H a y (some v) ∧ Q v H
theorem ix_dict (hu : X.A.units + 1 < cLine) : IxR X rDG := fun value slice pins s σ H x y v u Q I rx ry h hs => by
  obtain ⟨a, w, e1, g, q⟩ := h
  subst e1
  cases rx
  have tI := dict_typeIs I g
  have got : wpAny (model X.prog X.w) X.A (getItem (.ref a) u) (EP X pins σ Q) X.xe s := d_getItem hu I g ry fun w' s3 I3 rw' => ⟨w, H, I3, rw', q⟩
  unfold PyProof.Rows.subscriptTail
  refine wpAny_bind ?_
  rw [getitemInPython_of_ne tI.not_modules]
  refine wpAny_bind (wpAny_specialOf tI PySem.F.slot_dict_getitem.lookup ?_)
  have behind : wpAny (model X.prog X.w) X.A (subscripted slice false (.ref a) u) (fun z s3 => wpAny (model X.prog X.w) X.A (letTemporaryGo value (.ref a) z >>= fun _ => pure z) (EP X pins σ Q) X.xe s3) X.xe s := by
    rw [hs]
    exact wpAny_operating (wpAny_mono got (fun z s3 h3 => wpAny_bind (wpAny_letTemporaryGo (wpAny_pure h3))) fun _ _ k => k)
  first
    | exact wpAny_pure (wpAny_bind behind)
    | exact wpAny_bind (wpAny_pure (wpAny_bind behind))
    | exact wpAny_bind behind
theorem ixDic_ok : Op2 F rDG ixDic := fun A bx byy e Q q => by
  obtain ⟨r, h1, h2⟩ := Option.bind_eq_some_iff.mp e
  subst h2
  obtain ⟨a, o, rfl, g, h⟩ := getD_ok bx byy h1
  rcases h with ⟨_, h⟩ | ⟨v, d, rfl, h, hd⟩
  · cases h
  · cases h
    exact ⟨a, v, rfl, g, q _ _ (.refl _ _) A.ok hd⟩
variable {k : Nat}
theorem ixR (hr : Room k X.A) (hK : F.K = X.K) : IxR X (fun x y H Q => (rIxL F.K x y H Q ∨ rIxT F.K x y H Q) ∨ (rIxS x y H Q ∨ rDG x y H Q)) := by
  rw [hK]
  exact (ix_list.or ix_tup).or (ix_str.or (ix_dict (hu_of hr)))
theorem dd_ix (hr : Room k X.A) (ha : PE X a (lB F da)) (hb : PE X b (lB F db)) (hs : PlainIx b := by intro _ _; rfl) (hK : F.K = X.K := by rfl) : PE X (.Subscript a b pos) (lC F (dO2 bIx da db)) :=
  PE.mono (pe_ix (ixR hr hK) ha hb hs) (lop2 (Op2.or ixSeq_ok (Op2.or ixStr_ok ixDic_ok)))
def cutD (xs : List D) (lo hi : Option Int) : List D := (xs.drop (HT.sIx xs.length 0 lo)).take (HT.sIx xs.length xs.length hi - HT.sIx xs.length 0 lo)
theorem DdAll.cut {K : PySem.W.Frag} {N : Addr → Prop} {W : Wd} {H : Hp} {vs : List V} {ds : List D} (a : DdAll K N W H vs ds) (lo hi : Option Int) : DdAll K N W H (cutV vs lo hi) (cutD ds lo hi) := by
  unfold cutV cutD
  rw [a.len]
  exact (a.drop _).take _
abbrev TDO := De → (Option Int → Prop) → Prop
def oNone : TDO := fun _ P => P none
def oSome (d : TDE) : TDO := fun env P => d env fun x => match x with | .int i => P (some i) | _ => False
def lO (F : Fx) (d : TDO) : TO := fun σ H Q => ∃ env L P, Abs F env σ L H ∧ d env P ∧ ∀ x H', P x → KeepW F.W H H' → F.W.ok H' → Q x H'
theorem PO.mono {e : Option Expr} {t t' : TO} (h : PO X e t) (m : ∀ σ H Q, t' σ H Q → t σ H Q) : PO X e t' := ⟨fun pins s σ H Q I q => h.run pins s σ H Q I (m σ H Q q)⟩
theorem do_none : PO X none (lO F oNone) := PO.mono po_none fun σ H Q ⟨env, L, P, A, p, q⟩ => q none H p (.refl _ _) A.ok
theorem do_some (h : PE X e (lC F d)) : PO X (some e) (lO F (oSome d)) := PO.mono (po_some h) fun σ H Q ⟨env, L, P, A, p, q⟩ => ⟨env, L, _, A, p, fun x v H1 px k1 o1 d1 => by
  cases x with
  | int i => cases d1; exact ⟨i, rfl, q _ H1 px k1 o1⟩
  | _ => exact px.elim⟩
def cutA (x : D) (lo hi : Option Int) : Option D := match x with
  | .lst xs => some (.lst (cutD xs lo hi))
  | .tup xs => if HT.sIx xs.length 0 lo = 0 ∧ HT.sIx xs.length xs.length hi = xs.length then none else some (.tup (cutD xs lo hi))
  | .str z => if z.length ≤ sizeLine then some (.str (cutS z lo hi)) else none
  | _ => none
def dCut (f : D → Option Int → Option Int → Option D) (de : TDE) (dl dh : TDO) : TDE := fun env P => de env fun x => dl env fun l => dh env fun h => ob (f x l h) P
theorem slR (hK : F.K = X.K) : SlR X (fun x lo hi H Q => rSlL F.K x lo hi H Q ∨ (rSlT F.K x lo hi H Q ∨ rSlS x lo hi H Q)) := by
  rw [hK]
  exact sl_list.or (sl_tup.or sl_str)
variable {lo hi : Option Expr} {dl dh : TDO} {p2 : Pos}
theorem dd_cut (he : PE X e (lB F d)) (hl : PO X lo (lO F dl)) (hu : PO X hi (lO F dh)) (hK : F.K = X.K := by rfl) : PE X (.Subscript e (.Slice lo hi none p2) pos) (lC F (dCut cutA d dl dh)) :=
  PE.mono (pe_slice (slR hK) he hl hu) fun σ H Q ⟨env, L, P, A, p, q⟩ => ⟨env, L, _, A, p, fun x v H1 px k1 o1 b1 => ⟨env, L, _, A.step k1 o1, px, fun l H2 pl k2 o2 => ⟨env, L, _, (A.step k1 o1).step k2 o2, pl, fun h H3 ph k3 o3 => by
    obtain ⟨z, e, pz⟩ := ob_elim ph
    have A3 := ((A.step k1 o1).step k2 o2).step k3 o3
    have b3 := (b1.step (A.step k1 o1) k2).step ((A.step k1 o1).step k2 o2) k3
    have kk := (k1.trans k2).trans k3
    cases x with
    | lst xs =>
      cases e
      obtain ⟨a, vs, rfl, h1, h2⟩ := bw_lst b3
      exact .inl ⟨a, vs, rfl, SqL.of h1, fun t ht => q _ _ _ pz (kk.trans (.new ht)) (ok_new o3 ht) (new_lst A3 ht (h2.cut l h))⟩
    | tup xs =>
      obtain ⟨a, vs, rfl, h1, h2⟩ := bw_tup b3
      replace e : (if HT.sIx xs.length 0 l = 0 ∧ HT.sIx xs.length xs.length h = xs.length then none else some (D.tup (cutD xs l h))) = some z := e
      by_cases hc : HT.sIx xs.length 0 l = 0 ∧ HT.sIx xs.length xs.length h = xs.length
      · rw [if_pos hc] at e
        cases e
      · rw [if_neg hc] at e
        cases e
        exact .inr (.inl ⟨a, vs, rfl, SqT.of h1, by rw [h2.len]; exact hc, fun t ht => q _ _ _ pz (kk.trans (.new ht)) (ok_new o3 ht) (new_tup A3 ht (h2.cut l h))⟩)
    | str s =>
      have hs := bw_str b3
      subst hs
      obtain ⟨hc, rfl⟩ := guard_elim e
      exact .inr (.inr ⟨s, rfl, hc, q _ _ _ pz kk o3 (.str _)⟩)
    | _ => cases e⟩⟩⟩
def dRev (d : TDE) : TDE := fun env P => d env fun x => match x with | .lst xs => P (.lst xs.reverse) | _ => False
theorem lchain {r r' : R2} {f g : B2} (h : Op2 F r f) (h' : Op2 F r' g) : ∀ σ H Q, lC F (dChain f g da db dc) σ H Q → tChain r r' (lB F da) (lB F db) (lB F dc) σ H Q := fun σ H Q ⟨env, L, P, A, p, q⟩ =>
  ⟨env, L, _, A, p, fun x v H1 px k1 o1 b1 => ⟨env, L, _, A.step k1 o1, px, fun y u H2 py k2 o2 b2 => by
    obtain ⟨z, e, pz⟩ := ob_elim py
    have A2 := (A.step k1 o1).step k2 o2
    refine h A2 (b1.step (A.step k1 o1) k2) b2 e _ fun w H3 k3 o3 d3 => ?_
    cases z with
    | bl z =>
      have hw := dd_blE d3
      subst hw
      refine ⟨z, rfl, ?_⟩
      cases z with
      | false => exact iteF (q _ _ H3 pz ((k1.trans k2).trans k3) o3 d3)
      | true => exact iteT ⟨env, L, _, A2.step k3 o3, pz, fun t tv H4 pt k4 o4 b4 => by
          obtain ⟨z2, e2, pz2⟩ := ob_elim pt
          exact h' ((A2.step k3 o3).step k4 o4) ((b2.step A2 k3).step (A2.step k3 o3) k4) b4 e2 Q fun w2 H5 k5 o5 d5 => q _ _ H5 pz2 ((((k1.trans k2).trans k3).trans k4).trans k5) o5 d5⟩
    | _ => exact pz.elim⟩⟩
theorem dd_lele (ha : PE X a (lB F da)) (hb : PE X b (lB F db)) (hc : PE X c (lB F dc)) (hm : lastMarks [.LtE, .LtE] [b, c] = false := by with_unfolding_all rfl) : PE X (.Compare a [.LtE, .LtE] [b, c] pos) (lC F (dChain bLe bLe da db dc)) :=
  PE.mono (pe_chain op_le op_le ha hb hc hm) (lchain (iI0_ok fun i j _ _ _ _ => .bl _) (iI0_ok fun i j _ _ _ _ => .bl _))
theorem dd_lelt (ha : PE X a (lB F da)) (hb : PE X b (lB F db)) (hc : PE X c (lB F dc)) (hm : lastMarks [.LtE, .Lt] [b, c] = false := by with_unfolding_all rfl) : PE X (.Compare a [.LtE, .Lt] [b, c] pos) (lC F (dChain bLe (iI0 fun i j => .bl (decide (i < j))) da db dc)) :=
  PE.mono (pe_chain op_le op_lt ha hb hc hm) (lchain (iI0_ok fun i j _ _ _ _ => .bl _) (iI0_ok fun i j _ _ _ _ => .bl _))
theorem l_testE {t : TE} (h : ∀ σ H Q, lC F d σ H Q → t σ H Q) : ∀ σ H Q, lT F (dT d) σ H Q → tTest t σ H Q := fun σ H Q ⟨env, L, P, A, p, q⟩ => h σ H _ ⟨env, L, _, A, p, fun x v H1 px k1 o1 d1 => by
  cases x with
  | bl b => cases d1; exact ⟨b, rfl, q b H1 px k1 o1⟩
  | _ => exact px.elim⟩
theorem dt_lele (ha : PE X a (lB F da)) (hb : PE X b (lB F db)) (hc : PE X c (lB F dc)) (hm : lastMarks [.LtE, .LtE] [b, c] = false := by with_unfolding_all rfl) : PT X (.Compare a [.LtE, .LtE] [b, c] pos) (lT F (dT (dChain bLe bLe da db dc))) :=
  PT.mono (pt_chain op_le op_le ha hb hc hm) (l_testE (lchain (iI0_ok fun i j _ _ _ _ => .bl _) (iI0_ok fun i j _ _ _ _ => .bl _)))
def dNeg (d : TDE) : TDE := fun env P => d env fun x => match x with | .int i => P (.int (-i)) | _ => False
theorem dd_neg (ha : PE X a (lC F d)) : PE X (.UnaryOp .USub a pos) (lC F (dNeg d)) := PE.mono (pe_un un_neg ha) fun σ H Q ⟨env, L, P, A, p, q⟩ => ⟨env, L, _, A, p, fun x v H1 px k1 o1 d1 => by
  cases x with
  | int i => cases d1; exact ⟨i, rfl, q _ _ H1 px k1 o1 (.int _)⟩
  | _ => exact px.elim⟩
def truD : D → Option Bool
  | .non => some false
  | .bl b => some b
  | .int i => some (i != 0)
  | .str y => if y.length ≤ sizeLine then some ((y.length : Int) != 0) else none
  | .lst xs => some (!xs.isEmpty)
  | .tup xs => some (!xs.isEmpty)
  | _ => none
def dTru (d : TDE) : TDT := fun env P => d env fun x => ob (truD x) P
theorem empty_len {K : PySem.W.Frag} {N : Addr → Prop} {W : Wd} {H : Hp} {vs : List V} {ds : List D} (a : DdAll K N W H vs ds) : (!ds.isEmpty) = !vs.isEmpty := by cases a <;> rfl
theorem dt_tru (ha : PE X a (lB F d)) (he : ∀ whole, isTrue a X.env whole = (do let v ← whole; standAt a.pos; holding [v] (truthy v)) := by intro _; rfl) (hK : F.K = X.K := by rfl) : PT X a (lT F (dTru d)) := PT.mono (pt_truth ha he) fun σ H Q ⟨env, L, P, A, p, q⟩ => ⟨env, L, _, A, p, fun x v H1 px k1 o1 b1 => by
  obtain ⟨z, e, pz⟩ := ob_elim px
  refine ⟨z, ?_, q _ H1 pz k1 o1⟩
  rw [← hK]
  cases x with
  | non => rw [bw_non b1]; cases e; rfl
  | bl _ => rw [bw_bl b1]; cases e; rfl
  | int _ => rw [bw_int b1]; cases e; rfl
  | str _ =>
    rw [bw_str b1]
    obtain ⟨hc, rfl⟩ := guard_elim e
    exact ⟨hc, rfl⟩
  | lst _ =>
    obtain ⟨a, vs, rfl, h1, h2⟩ := bw_lst b1
    cases e
    exact .inl ⟨vs, SqL.of h1, empty_len h2⟩
  | tup _ =>
    obtain ⟨a, vs, rfl, h1, h2⟩ := bw_tup b1
    cases e
    exact .inr (.inl ⟨vs, SqT.of h1, empty_len h2⟩)
  | _ => cases e⟩
end
end DL
namespace DL
open PySem PySem.Spec PyProof.Rows L2 RK
abbrev BwA (F : Fx) (L : List Addr) (H : Hp) : List V → List D → Prop := Paired (Bw F L H)
def lAb (F : Fx) (d : TDA) : TA := fun σ H Q => ∃ env L P, Abs F env σ L H ∧ d env P ∧ ∀ xs vs H', P xs → KeepW F.W H H' → F.W.ok H' → BwA F L H' vs xs → Q vs H'
section
variable {X : Cx} {F : Fx} {e a b c : Expr} {es : List Expr} {d da db dc : TDE} {ds : TDA} {pos : Pos}
theorem db_nil : PA X [] (lAb F aNil) := PA.mono pa_nil fun σ H Q ⟨env, L, P, A, p, q⟩ => q [] [] H p (.refl _ _) A.ok .nil
theorem db_cons (ha : PE X e (lB F d)) (hr : PA X es (lAb F ds)) (hs : starEach (e :: es) X.env = (false, eval e X.env) :: starEach es X.env := by rfl) : PA X (e :: es) (lAb F (aCons d ds)) := PA.mono (pa_cons ha hr hs) fun σ H Q ⟨env, L, P, A, p, q⟩ =>
  ⟨env, L, _, A, p, fun x v H1 px k1 o1 d1 => ⟨env, L, _, A.step k1 o1, px, fun xs vs H2 pxs k2 o2 d2 => q (x :: xs) (v :: vs) H2 pxs (k1.trans k2) o2 (.cons (d1.step (A.step k1 o1) k2) d2)⟩⟩
def Ca (F : Fx) (r : List V → Hp → VK → Prop) (f : List D → Option D) : Prop := ∀ {env : De} {σ : L2.St} {L : List Addr} {H : Hp} {vs : List V} {ds : List D} {z : D}, Abs F env σ L H → BwA F L H vs ds → f ds = some z →
  ∀ Q : VK, (∀ v H', KeepW F.W H H' → F.W.ok H' → Dd F.K (F.N L) F.W H' v z → Q v H') → r vs H Q
def CaN (F : Fx) (r : List V → Hp → VK → Prop) (f : List D → Option D) : Prop := ∀ {env : De} {σ : L2.St} {L : List Addr} {H : Hp} {vs : List V} {ds : List D} {z : D}, Abs F env σ L H → BwA F L H vs ds → f ds = some z →
  ∀ Q : VK, (∀ a H', KeepW F.W H H' → F.W.ok H' → H a = none → NewV F L H' a z → Q (.ref a) H') → r vs H Q
def dCa (f : List D → Option D) (ds : TDA) : TDE := fun env P => ds env fun xs => ob (f xs) P
theorem lca {r : List V → Hp → VK → Prop} {f : List D → Option D} (h : Ca F r f) : ∀ σ H Q, lC F (dCa f ds) σ H Q → tCB r (lAb F ds) σ H Q := fun σ H Q ⟨env, L, P, A, p, q⟩ =>
  ⟨env, L, _, A, p, fun xs vs H1 px k1 o1 d1 => by
    obtain ⟨z, e, pz⟩ := ob_elim px
    exact h (A.step k1 o1) d1 e Q fun v H2 k2 o2 d2 => q z v H2 pz (k1.trans k2) o2 d2⟩
theorem lcaN {r : List V → Hp → VK → Prop} {f : List D → Option D} (h : CaN F r f) : ∀ σ H Q, lN F (dCa f ds) σ H Q → tCB r (lAb F ds) σ H Q := fun σ H Q ⟨env, L, P, A, p, q⟩ =>
  ⟨env, L, _, A, p, fun xs vs H1 px k1 o1 d1 => by
    obtain ⟨z, e, pz⟩ := ob_elim px
    exact h (A.step k1 o1) d1 e Q fun v H2 k2 o2 n2 d2 => q z v H2 pz (k1.trans k2) o2 (free_of k1 o1 n2) d2⟩
theorem CallR.or {f : Value} {r r' : List V → Hp → VK → Prop} (h : CallR X f r) (h' : CallR X f r') : CallR X f (fun xs H Q => r xs H Q ∨ r' xs H Q) := fun pins s σ H xs us Q I rx q => by
  rcases q with q | q
  · exact h pins s σ H xs us Q I rx q
  · exact h' pins s σ H xs us Q I rx q
def lenD : List D → Option D
  | [.lst xs] => some (.int xs.length)
  | [.tup xs] => some (.int xs.length)
  | [.ktp xs] => some (.int xs.length)
  | [.str z] => if z.length ≤ sizeLine then some (.int z.length) else none
  | [.dic kds] => some (.int kds.length)
  | _ => none
theorem call_lenR : CallR X (.builtin "len") (fun xs H Q => ∃ a kvs, xs = [V.ref a] ∧ Rd H a (.dK kvs) ∧ Q (.int kvs.length) H) := fun pins s σ H xs us Q I r h => by
  obtain ⟨a, kvs, rfl, ha, q⟩ := h
  obtain ⟨u, rfl, ru⟩ := vals1 r
  cases ru
  exact d_len I ha fun t s' I' => ⟨.int kvs.length, H, I', ⟨t, rfl⟩, q⟩
theorem len_ok : Ca F (fun xs H Q => (∃ x n, xs = [x] ∧ LenV F.K x H n ∧ Q (.int n) H) ∨ (∃ a kvs, xs = [V.ref a] ∧ Rd H a (.dK kvs) ∧ Q (.int kvs.length) H)) lenD := fun A b e Q q => by
  rename_i dl z
  match dl, b, e with
  | [.lst xs], .cons h .nil, e =>
    obtain ⟨a, vs, rfl, h1, h2⟩ := bw_lst h
    cases e
    exact .inl ⟨_, _, rfl, .inl ⟨vs, SqL.of h1, rfl⟩, by rw [h2.len]; exact q _ _ (.refl _ _) A.ok (.int _)⟩
  | [.tup xs], .cons h .nil, e =>
    obtain ⟨a, vs, rfl, h1, h2⟩ := bw_tup h
    cases e
    exact .inl ⟨_, _, rfl, .inr ⟨vs, SqT.of h1, rfl⟩, by rw [h2.len]; exact q _ _ (.refl _ _) A.ok (.int _)⟩
  | [.ktp xs], .cons h .nil, e =>
    obtain ⟨a, vs, rfl, h1, h2⟩ := bw_items h rfl
    cases e
    exact .inl ⟨_, vs.length, rfl, h1.imp (fun h => ⟨vs, h, rfl⟩) (fun h => ⟨vs, h, rfl⟩), by rw [h2.len]; exact q _ _ (.refl _ _) A.ok (.int _)⟩
  | [.str x], .cons h .nil, e =>
    have hx := bw_str h
    subst hx
    obtain ⟨hc, rfl⟩ := guard_elim e
    exact .inl ⟨_, _, rfl, ⟨hc, rfl⟩, q _ _ (.refl _ _) A.ok (.int _)⟩
  | [.dic kds], .cons h .nil, e =>
    obtain ⟨a, kvs, rfl, h1, h2, h3⟩ := bw_dic h
    cases e
    have : kvs.length = kds.length := by simpa using congrArg List.length h2
    exact .inr ⟨_, _, rfl, h1, by rw [this]; exact q _ _ (.refl _ _) A.ok (.int _)⟩
theorem lenR (hK : F.K = X.K) : CallR X (.builtin "len") (fun xs H Q => (∃ x n, xs = [x] ∧ LenV F.K x H n ∧ Q (.int n) H) ∨ (∃ a kvs, xs = [V.ref a] ∧ Rd H a (.dK kvs) ∧ Q (.int kvs.length) H)) := by
  rw [hK]
  exact CallR.or call_len call_lenR
variable {p : Pos}
theorem dd_len (hg : Gl X "len") (hm : X.mg "len" = none) (ha : PE X e (lB F d)) (he : starEach [e] X.env = (false, eval e X.env) :: starEach [] X.env := by rfl) (hpl : (backTo pos (starEach [] X.env)).any (·.1) = false := by rfl) (hK : F.K = X.K := by rfl) :
    PE X (.Call (.Name "len" p) [e] [] pos) (lC F (dCa lenD (aCons d aNil))) := PE.mono (pe_callB (lenR hK) hg hm (by decide +kernel) (db_cons ha db_nil he) (by decide) (by decide) he hpl) (lca len_ok)
def blsD : List D → Option (List Bool)
  | [] => some []
  | .bl b :: ds => (blsD ds).map fun bs => b :: bs
  | _ => none
def intsD : List D → Option (List Int)
  | [] => some []
  | .int i :: ds => (intsD ds).map fun is => i :: is
  | _ => none
def strsD : List D → Option (List Str)
  | [] => some []
  | .str i :: ds => (strsD ds).map fun is => i :: is
  | _ => none
theorem bls_v {K : PySem.W.Frag} {N : Addr → Prop} {W : Wd} {H : Hp} : ∀ {vs : List V} {ds : List D} {bs : List Bool}, DdAll K N W H vs ds → blsD ds = some bs → vs = bs.map V.bl
  | _, _, _, .nil, e => by cases e; rfl
  | _, _, _, .cons (d := d) h a, e => by
    cases d <;> try cases e
    obtain ⟨bs, h1, rfl⟩ := Option.map_eq_some_iff.mp e
    rw [bls_v a h1, dd_blE h]
    rfl
theorem ints_v {K : PySem.W.Frag} {N : Addr → Prop} {W : Wd} {H : Hp} : ∀ {vs : List V} {ds : List D} {bs : List Int}, DdAll K N W H vs ds → intsD ds = some bs → vs = bs.map V.int
  | _, _, _, .nil, e => by cases e; rfl
  | _, _, _, .cons (d := d) h a, e => by
    cases d <;> try cases e
    obtain ⟨bs, h1, rfl⟩ := Option.map_eq_some_iff.mp e
    rw [ints_v a h1, dd_intE h]
    rfl
theorem strs_v {K : PySem.W.Frag} {N : Addr → Prop} {W : Wd} {H : Hp} : ∀ {vs : List V} {ds : List D} {bs : List Str}, DdAll K N W H vs ds → strsD ds = some bs → vs = bs.map V.str
  | _, _, _, .nil, e => by cases e; rfl
  | _, _, _, .cons (d := d) h a, e => by
    cases d <;> try cases e
    obtain ⟨bs, h1, rfl⟩ := Option.map_eq_some_iff.mp e
    rw [strs_v a h1, dd_strE h]
    rfl
theorem dd_strs {K : PySem.W.Frag} {N : Addr → Prop} {W : Wd} {H : Hp} : ∀ zs : List Str, DdAll K N W H (zs.map V.str) (zs.map D.str)
  | [] => .nil
  | z :: zs => .cons (.str z) (dd_strs zs)
theorem dd_ints {K : PySem.W.Frag} {N : Addr → Prop} {W : Wd} {H : Hp} : ∀ zs : List Int, DdAll K N W H (zs.map V.int) (zs.map D.int)
  | [] => .nil
  | z :: zs => .cons (.int z) (dd_ints zs)
theorem blsD_map : ∀ zs : List Bool, blsD (zs.map D.bl) = some zs
  | [] => rfl
  | z :: zs => by show (blsD (zs.map D.bl)).map _ = _; rw [blsD_map zs]; rfl
def allD : List D → Option D
  | [.lst ds] => (blsD ds).map fun bs => .bl (bs.all id)
  | _ => none
def anyD : List D → Option D
  | [.lst ds] => (blsD ds).map fun bs => .bl (bs.any id)
  | _ => none
theorem all_ok : Ca F (rAll F.K) allD := fun A b e Q q => by
  rename_i dl z
  match dl, b, e with
  | [.lst xs], .cons h .nil, e =>
    obtain ⟨a, vs, rfl, h1, h2⟩ := bw_lst h
    obtain ⟨bs, h3, rfl⟩ := Option.map_eq_some_iff.mp e
    exact ⟨a, bs, rfl, SqL.of (by rw [h1, bls_v h2 h3]), q _ _ (.refl _ _) A.ok (.bl _)⟩
theorem any_ok : Ca F (rAny F.K) anyD := fun A b e Q q => by
  rename_i dl z
  match dl, b, e with
  | [.lst xs], .cons h .nil, e =>
    obtain ⟨a, vs, rfl, h1, h2⟩ := bw_lst h
    obtain ⟨bs, h3, rfl⟩ := Option.map_eq_some_iff.mp e
    exact ⟨a, bs, rfl, SqL.of (by rw [h1, bls_v h2 h3]), q _ _ (.refl _ _) A.ok (.bl _)⟩
theorem allR (hc : X.calm = true) (hK : F.K = X.K) : CallR X (.builtin "all") (rAll F.K) := by rw [hK]; exact cr_all hc
theorem anyR (hc : X.calm = true) (hK : F.K = X.K) : CallR X (.builtin "any") (rAny F.K) := by rw [hK]; exact cr_any hc
theorem dd_all (hg : Gl X "all") (hm : X.mg "all" = none) (ha : PE X e (lB F d)) (hc : X.calm = true := by rfl) (he : starEach [e] X.env = (false, eval e X.env) :: starEach [] X.env := by rfl) (hpl : (backTo pos (starEach [] X.env)).any (·.1) = false := by rfl) (hK : F.K = X.K := by rfl) :
    PE X (.Call (.Name "all" p) [e] [] pos) (lC F (dCa allD (aCons d aNil))) := PE.mono (pe_callB (allR hc hK) hg hm (by decide +kernel) (db_cons ha db_nil he) (by decide) (by decide) he hpl) (lca all_ok)
theorem dd_any (hg : Gl X "any") (hm : X.mg "any" = none) (ha : PE X e (lB F d)) (hc : X.calm = true := by rfl) (he : starEach [e] X.env = (false, eval e X.env) :: starEach [] X.env := by rfl) (hpl : (backTo pos (starEach [] X.env)).any (·.1) = false := by rfl) (hK : F.K = X.K := by rfl) :
    PE X (.Call (.Name "any" p) [e] [] pos) (lC F (dCa anyD (aCons d aNil))) := PE.mono (pe_callB (anyR hc hK) hg hm (by decide +kernel) (db_cons ha db_nil he) (by decide) (by decide) he hpl) (lca any_ok)
def max2D : List D → Option D
  | [.int i, .int j] => some (.int (if j > i then j else i))
  | _ => none
def min2D : List D → Option D
  | [.int i, .int j] => some (.int (if j < i then j else i))
  | _ => none
theorem max2_ok : Ca F (fun xs H Q => ∃ i j, xs = [.int i, .int j] ∧ Q (.int (if j > i then j else i)) H) max2D := fun A b e Q q => by
  rename_i dl z
  match dl, b, e with
  | [.int i, .int j], .cons h (.cons h' .nil), e =>
    cases e
    rw [bw_int h, bw_int h']
    exact ⟨i, j, rfl, q _ _ (.refl _ _) A.ok (.int _)⟩
theorem min2_ok : Ca F (fun xs H Q => ∃ i j, xs = [.int i, .int j] ∧ Q (.int (if j < i then j else i)) H) min2D := fun A b e Q q => by
  rename_i dl z
  match dl, b, e with
  | [.int i, .int j], .cons h (.cons h' .nil), e =>
    cases e
    rw [bw_int h, bw_int h']
    exact ⟨i, j, rfl, q _ _ (.refl _ _) A.ok (.int _)⟩
theorem dd_max2 (hg : Gl X "max") (hm : X.mg "max" = none) (ha : PE X a (lB F da)) (hb : PE X b (lB F db)) (hc : X.calm = true := by rfl) (he : starEach [a, b] X.env = (false, eval a X.env) :: starEach [b] X.env := by rfl) (he2 : starEach [b] X.env = (false, eval b X.env) :: starEach [] X.env := by rfl) (hpl : (backTo pos (starEach [b] X.env)).any (·.1) = false := by rfl) :
    PE X (.Call (.Name "max" p) [a, b] [] pos) (lC F (dCa max2D (aCons da (aCons db aNil)))) := PE.mono (pe_callB (call_max2 hc) hg hm (by decide +kernel) (db_cons ha (db_cons hb db_nil he2) he) (by decide) (by decide) he hpl) (lca max2_ok)
theorem dd_min2 (hg : Gl X "min") (hm : X.mg "min" = none) (ha : PE X a (lB F da)) (hb : PE X b (lB F db)) (hc : X.calm = true := by rfl) (he : starEach [a, b] X.env = (false, eval a X.env) :: starEach [b] X.env := by rfl) (he2 : starEach [b] X.env = (false, eval b X.env) :: starEach [] X.env := by rfl) (hpl : (backTo pos (starEach [b] X.env)).any (·.1) = false := by rfl) :
    PE X (.Call (.Name "min" p) [a, b] [] pos) (lC F (dCa min2D (aCons da (aCons db aNil)))) := PE.mono (pe_callB (call_min2 hc) hg hm (by decide +kernel) (db_cons ha (db_cons hb db_nil he2) he) (by decide) (by decide) he hpl) (lca min2_ok)
def keyV : Key → D
  | .inl i => .int i
  | .inr x => .str x
theorem dd_key {K : PySem.W.Frag} {N : Addr → Prop} {W : Wd} {H : Hp} : ∀ k : Key, Dd K N W H (kV k) (keyV k)
  | .inl i => .int i
  | .inr x => .str x
theorem dd_keys {K : PySem.W.Frag} {N : Addr → Prop} {W : Wd} {H : Hp} : ∀ {kvs : List (Key × V)} {kds : List (Key × D)}, kvs.map (·.1) = kds.map (·.1) → DdAll K N W H (kvs.map fun kv => kV kv.1) (kds.map fun kd => keyV kd.1)
  | [], [], _ => .nil
  | [], _ :: _, e => by cases e
  | _ :: _, [], e => by cases e
  | (k1, v) :: kvs, (k2, d) :: kds, e => by
    have e1 : k1 = k2 := (List.cons.inj e).1
    subst e1
    exact .cons (dd_key k1) (dd_keys (List.cons.inj e).2)
def listD : List D → Option D
  | [.lst xs] => some (.lst xs)
  | [.tup xs] => some (.lst xs)
  | [.ktp xs] => some (.lst xs)
  | [.dic kds] => some (.lst (kds.map fun kd => keyV kd.1))
  | _ => none
theorem list_okN : CaN F (fun xs H Q => (∃ p ys, xs = [.ref p] ∧ (SqL F.K H p ys ∨ SqT F.K H p ys) ∧ ∀ l, H l = none → Q (.ref l) (upd H l (.lst ys))) ∨ (∃ (a : Addr) (kvs : List (Key × V)), xs = [.ref a] ∧ Rd H a (.dK kvs) ∧ ∀ p, H p = none → Q (.ref p) (upd H p (.lst (kvs.map fun kv => kV kv.1))))) listD := fun A b e Q q => by
  rename_i dl z
  match dl, b, e with
  | [.lst xs], .cons h .nil, e =>
    obtain ⟨a, vs, rfl, h1, h2⟩ := bw_lst h
    cases e
    exact .inl ⟨_, _, rfl, .inl (SqL.of h1), fun t ht => q _ _ (.new ht) (ok_new A.ok ht) ht (new_lstN A ht h2)⟩
  | [.tup xs], .cons h .nil, e =>
    obtain ⟨a, vs, rfl, h1, h2⟩ := bw_tup h
    cases e
    exact .inl ⟨_, _, rfl, .inr (SqT.of h1), fun t ht => q _ _ (.new ht) (ok_new A.ok ht) ht (new_lstN A ht h2)⟩
  | [.ktp xs], .cons h .nil, e =>
    obtain ⟨a, vs, rfl, h1, h2⟩ := bw_items h rfl
    cases e
    exact .inl ⟨_, vs, rfl, h1, fun t ht => q _ _ (.new ht) (ok_new A.ok ht) ht (new_lstN A ht h2)⟩
  | [.dic kds], .cons h .nil, e =>
    obtain ⟨a, kvs, rfl, h1, h2, h3⟩ := bw_dic h
    cases e
    exact .inr ⟨_, _, rfl, h1, fun t ht => q _ _ (.new ht) (ok_new A.ok ht) ht (new_lstN A ht (dd_keys h2))⟩
theorem listR (hc : X.calm = true) (hK : F.K = X.K) : CallR X (.type "list") (fun xs H Q => (∃ p ys, xs = [.ref p] ∧ (SqL F.K H p ys ∨ SqT F.K H p ys) ∧ ∀ l, H l = none → Q (.ref l) (upd H l (.lst ys))) ∨ (∃ (a : Addr) (kvs : List (Key × V)), xs = [.ref a] ∧ Rd H a (.dK kvs) ∧ ∀ p, H p = none → Q (.ref p) (upd H p (.lst (kvs.map fun kv => kV kv.1))))) := by
  rw [hK]
  exact CallR.or call_list_of (call_listD hc)
theorem dn_list (hg : Gl X "list") (hm : X.mg "list" = none) (ha : PE X e (lB F d)) (hc : X.calm = true := by rfl) (he : starEach [e] X.env = (false, eval e X.env) :: starEach [] X.env := by rfl) (hpl : (backTo pos (starEach [] X.env)).any (·.1) = false := by rfl) (hK : F.K = X.K := by rfl) :
    PE X (.Call (.Name "list" p) [e] [] pos) (lN F (dCa listD (aCons d aNil))) := PE.mono (pe_callTy (listR hc hK) hg hm (by decide +kernel) (db_cons ha db_nil he) (by decide) (by decide) he hpl) (lcaN list_okN)
end
end DL
namespace DL
open PySem PySem.Spec PyProof.Rows L2 RK
def tyD : D → Option String
  | .non => some "NoneType" | .bl _ => some "bool" | .int _ => some "int" | .str _ => some "str" | .lst _ => some "list" | .tup _ => some "tuple" | .ktp _ => some "tuple" | .dic _ => some "dict" | _ => none
def isD (T : String) (x : D) : Option Bool := (tyD x).bind fun t => kitB t T
def isAnyD (x : D) : List String → Option Bool
  | [] => some false
  | T :: Ts => (isD T x).bind fun b => if b = true then some true else isAnyD x Ts
section
variable {X : Cx} {F : Fx} {e a b c : Expr} {es : List Expr} {d da db dc : TDE} {ds : TDA} {pos p : Pos}
theorem ty_bw {L : List Addr} {H : Hp} {v : V} {x : D} {t : String} (h : Bw F L H v x) (e : tyD x = some t) : TyX F.K H v (.type t) := by
  cases x with
  | non => rw [bw_non h]; cases e; exact .base .non
  | bl _ => rw [bw_bl h]; cases e; exact .base (.bl _)
  | int _ => rw [bw_int h]; cases e; exact .base (.int _)
  | str _ => rw [bw_str h]; cases e; exact .base (.str _)
  | lst _ => obtain ⟨a, vs, rfl, h1, _⟩ := bw_lst h; cases e; exact .base (.lst h1)
  | tup _ => obtain ⟨a, vs, rfl, h1, _⟩ := bw_tup h; cases e; exact .base (.tup h1)
  | ktp _ =>
    cases e
    rcases h with h | ⟨e, h1, h2, h3⟩
    · cases h with | ktp h1 h2 h3 h4 h5 h6 => exact .kTuple h1 h2
    · cases e <;> cases h3
  | dic _ =>
    obtain ⟨a, vs, rfl, h1, _⟩ := bw_dic h
    cases e
    rcases h1 with h1 | ⟨o, h1⟩
    · exact .base (.dK h1)
    · exact .fDict h1
  | _ => cases e
def dIs (T : String) (d : TDE) : TDE := fun env P => d env fun x => ob (isD T x) fun b => P (.bl b)
def dIsA (Ts : List String) (d : TDE) : TDE := fun env P => d env fun x => ob (isAnyD x Ts) fun b => P (.bl b)
theorem isiR (hK : F.K = X.K) : CallR X (.builtin "isinstance") (rIsi F.K) := by rw [hK]; exact call_isi
theorem dd_isi {T : String} (hg : Gl X "isinstance") (hm : X.mg "isinstance" = none) (ha : PE X a (lB F d)) (hb : PE X b (tC (.ty T))) (he : starEach [a, b] X.env = (false, eval a X.env) :: starEach [b] X.env := by rfl) (he2 : starEach [b] X.env = (false, eval b X.env) :: starEach [] X.env := by rfl) (hpl : (backTo pos (starEach [b] X.env)).any (·.1) = false := by rfl) (hK : F.K = X.K := by rfl) :
    PE X (.Call (.Name "isinstance" p) [a, b] [] pos) (lC F (dIs T d)) := PE.mono (pe_callB (isiR hK) hg hm (by decide +kernel) (pa_cons ha (pa_cons hb pa_nil he2) he) (by decide) (by decide) he hpl) fun σ H Q ⟨env, L, P, A, pp, q⟩ =>
  ⟨env, L, _, A, pp, fun x v H1 px k1 o1 b1 => by
    obtain ⟨z, e, pz⟩ := ob_elim px
    obtain ⟨t, h1, h2⟩ := Option.bind_eq_some_iff.mp e
    exact ⟨v, .ty T, _, _, z, rfl, .ty T, ty_bw b1 h1, kit_ty h2, q _ _ H1 pz k1 o1 (.bl _)⟩⟩
def SortS (xs ys : List Str) : Prop := ys.Perm xs ∧ sortedS ys = true
def SortI (xs ys : List Int) : Prop := ys.Perm xs ∧ ys.Pairwise (· ≤ ·)
def txtKeys : List (Key × D) → Option (List Str)
  | [] => some []
  | (.inr x, _) :: r => (txtKeys r).map fun xs => x :: xs
  | _ => none
theorem txtKeys_v : ∀ {kds : List (Key × D)} {xs : List Str}, txtKeys kds = some xs → kds.map (·.1) = xs.map Sum.inr
  | [], _, e => by cases e; rfl
  | (.inr x, d) :: r, _, e => by
    obtain ⟨ys, h1, rfl⟩ := Option.map_eq_some_iff.mp e
    simp [txtKeys_v h1]
  | (.inl x, d) :: r, _, e => by cases e
def dSort (d : TDE) : TDE := fun env P => d env fun x => match x with
  | .lst xs => (∃ zs, strsD xs = some zs ∧ zs.length < 64 ∧ ∀ ys, SortS zs ys → P (.lst (ys.map D.str))) ∨ (∃ zs, intsD xs = some zs ∧ zs.length < 64 ∧ ∀ ys, SortI zs ys → P (.lst (ys.map D.int)))
  | .dic kds => ∃ zs, txtKeys kds = some zs ∧ zs.length < 64 ∧ ∀ ys, SortS zs ys → P (.lst (ys.map D.str))
  | _ => False
theorem sortR (hc : X.calm = true) (hK : F.K = X.K) : CallR X (.builtin "sorted") (fun vs H Q => rSortedS F.K vs H Q ∨ (rSorted F.K vs H Q ∨ (∃ (a : Addr) (kvs : List (Key × V)) (ks : List Str), vs = [.ref a] ∧ Rd H a (.dK kvs) ∧ kvs.map (·.1) = ks.map Sum.inr ∧ ks.length < 64 ∧
    ∀ ys p, ys.Perm ks → sortedS ys = true → H p = none → Q (.ref p) (upd H p (.lst (ys.map V.str)))))) := by
  rw [hK]
  exact CallR.or cr_sortedS (CallR.or cr_sorted (call_sortedD hc))
theorem dn_sort (hg : Gl X "sorted") (hm : X.mg "sorted" = none) (ha : PE X e (lB F d)) (hc : X.calm = true := by rfl) (he : starEach [e] X.env = (false, eval e X.env) :: starEach [] X.env := by rfl) (hpl : (backTo pos (starEach [] X.env)).any (·.1) = false := by rfl) (hK : F.K = X.K := by rfl) :
    PE X (.Call (.Name "sorted" p) [e] [] pos) (lN F (dSort d)) := PE.mono (pe_callB (sortR hc hK) hg hm (by decide +kernel) (pa_cons ha pa_nil he) (by decide) (by decide) he hpl) fun σ H Q ⟨env, L, P, A, pp, q⟩ =>
  ⟨env, L, _, A, pp, fun x v H1 px k1 o1 b1 => by
    have A1 := A.step k1 o1
    cases x with
    | lst xs =>
      obtain ⟨a, vs, rfl, h1, h2⟩ := bw_lst b1
      rcases px with ⟨zs, hz, h64, px⟩ | ⟨zs, hz, h64, px⟩
      · exact .inl ⟨a, zs, rfl, SqL.of (by rw [h1, strs_v h2 hz]), h64, fun ys t py so ht => q _ _ _ (px ys ⟨py, so⟩) (k1.trans (.new ht)) (ok_new o1 ht) (free_of k1 o1 ht) (new_lstN A1 ht (dd_strs ys))⟩
      · exact .inr (.inl ⟨a, zs, rfl, SqL.of (by rw [h1, ints_v h2 hz]), h64, fun ys t py so ht => q _ _ _ (px ys ⟨py, so⟩) (k1.trans (.new ht)) (ok_new o1 ht) (free_of k1 o1 ht) (new_lstN A1 ht (dd_ints ys))⟩)
    | dic kds =>
      obtain ⟨a, kvs, rfl, h1, h2, h3⟩ := bw_dic b1
      obtain ⟨zs, hz, h64, px⟩ := px
      exact .inr (.inr ⟨a, kvs, zs, rfl, h1, by rw [h2]; exact txtKeys_v hz, h64, fun ys t py so ht => q _ _ _ (px ys ⟨py, so⟩) (k1.trans (.new ht)) (ok_new o1 ht) (free_of k1 o1 ht) (new_lstN A1 ht (dd_strs ys))⟩)
    | _ => exact px.elim⟩
def indexOf (xs : List D) (y : D) : Option Nat := xs.findIdx? fun z => eqF z y
def dIndex (dx dy : TDE) : TDE := fun env P => dx env fun x => match x with
  | .lst xs => dy env fun y => xs.all D.leaf = true ∧ y.leaf = true ∧ ob (indexOf xs y) fun j => P (.int (j : Nat))
  | _ => False
end
end DL
namespace DL
open PySem PySem.Spec PyProof.Rows L2 RK
abbrev DSp := List D → (D → Prop) → Prop
structure Nw (K : PySem.W.Frag) (W : Wd) (N0 : Addr → Prop) (H : Hp) (fr : Fr) (H' : Hp) (v : V) (x : D) : Prop where
  n : fr = .b true → ∃ a, v = .ref a ∧ H a = none ∧ NewV ⟨K, W, N0, H, .b true⟩ [] H' a x
  c : ∀ j, fr = .ch j → Ch j H H' v x
def lSp (K : PySem.W.Frag) (fr : Fr) (sp : DSp) : Sp := fun vs H Q _ => ∃ (W : Wd) (N0 : Addr → Prop) (ds : List D) (P : D → Prop), (∀ a, N0 a → ∃ o, H a = some o) ∧ (∀ a, W.own a → N0 a) ∧ W.ok H ∧ DdAll K N0 W H vs ds ∧ sp ds P ∧
  ∀ x v H', P x → KeepW W H H' → W.ok H' → Dd K N0 W H' v x → Nw K W N0 H fr H' v x → Q v H'
section
variable {X : Cx} {F : Fx} {e a b c : Expr} {es : List Expr} {d da db dc : TDE} {ds dk : TDA} {pos p : Pos}
def dCall (sp : DSp) (ds : TDA) : TDE := fun env P => ds env fun xs => sp xs P
theorem lcall {fr : Fr} {sp : DSp} {E : XK} {K : PySem.W.Frag} (hK : F.K = K) : ∀ σ H Q, lC F (dCall sp ds) σ H Q → tCall (lSp K fr sp) [] E (lA F ds) σ H Q := fun σ H Q ⟨env, L, P, A, pp, q⟩ => by
  subst hK
  exact ⟨env, L, _, A, pp, fun xs vs H1 px k1 o1 d1 => ⟨F.W, F.N L, xs, P, fun a h => (A.step k1 o1).alN h, fun a h => .inl (A.wn a h), o1, by rw [List.append_nil]; exact d1, px, fun x v H2 p2 k2 o2 d2 _ => q x v H2 p2 (k1.trans k2) o2 d2⟩⟩
theorem new_of {K : PySem.W.Frag} {W : Wd} {N0 : Addr → Prop} {H H' : Hp} {fr : Fr} {L : List Addr} {a : Addr} {x : D} {F : Fx} (e1 : F.K = K) (e2 : F.W = W) (e3 : F.N L = N0) (h : NewV ⟨K, W, N0, H, .b true⟩ [] H' a x) : NewV F L H' a x := by
  subst e1 e2
  have key : ∀ {vs : List V} {ds : List D}, DdAll F.K (Fx.N ⟨F.K, F.W, N0, H, .b true⟩ [a]) F.W H' vs ds → DdAll F.K (F.N (a :: L)) F.W H' vs ds := fun h => h.keep (fun _ _ _ z => z) fun y hy => by
    rcases hy with hy | hy
    · left
      show N0 y
      rw [← e3]
      exact .inl hy
    · rcases List.mem_cons.mp hy with hy | hy
      · exact .inr (by rw [hy]; exact List.mem_cons_self)
      · left
        show N0 y
        rw [← e3]
        exact .inr hy
  cases x with
  | lst ds => obtain ⟨vs, h1, h2⟩ := h; exact ⟨vs, h1, key h2⟩
  | tup ds => obtain ⟨vs, h1, h2⟩ := h; exact ⟨vs, h1, key h2⟩
  | dic ds => obtain ⟨vs, h1, h3, h2⟩ := h; exact ⟨vs, h1, h3, key h2⟩
  | dct ds => obtain ⟨vs, h1, h3, h2⟩ := h; exact ⟨vs, h1, h3, key h2⟩
  | _ => exact h
theorem lcallN {sp : DSp} {E : XK} {K : PySem.W.Frag} (hK : F.K = K) : ∀ σ H Q, lN F (dCall sp ds) σ H Q → tCall (lSp K (.b true) sp) [] E (lA F ds) σ H Q := fun σ H Q ⟨env, L, P, A, pp, q⟩ => by
  subst hK
  refine ⟨env, L, _, A, pp, fun xs vs H1 px k1 o1 d1 => ⟨F.W, F.N L, xs, P, fun a h => (A.step k1 o1).alN h, fun a h => .inl (A.wn a h), o1, by rw [List.append_nil]; exact d1, px, fun x v H2 p2 k2 o2 d2 nn => ?_⟩⟩
  obtain ⟨a, rfl, h1, h2⟩ := nn.n rfl
  exact q x a H2 p2 (k1.trans k2) o2 (free_of k1 o1 h1) (new_of (fr := .b true) rfl rfl rfl h2)
variable {CX : CXT} {k : Nat} {f : Addr} {fd : FuncData} {ps ks : List Str} {sp : DSp} {E : XK} {x : Str} {fr : Fr} {K : PySem.W.Frag}
theorem dd_call (G : FnOk X.prog X.w X.K X.mg X.base CX k f fd ps (lSp K fr sp)) (hr : Room k X.A) (hg : Gl X x) (hm : X.mg x = some (.ref f)) (hk : PySem.W.keepIn X.K (.ref f) = true) (hb : Binds X.K fd ps []) (hx : Passes CX X E) (ha : PA X (e :: es) (lA F ds)) (hK : F.K = K := by rfl)
    (he : starEach (e :: es) X.env = (false, eval e X.env) :: starEach es X.env := by rfl) (hpl : (backTo pos (starEach es X.env)).any (·.1) = false := by rfl) (hdb : (x == ("__debug__" : Str)) = false := by decide) :
    PE X (.Call (.Name x p) (e :: es) [] pos) (lC F (dCall sp ds)) := PE.mono (pe_call G hr hg hm hk hb .nil hx ha hdb he hpl) (lcall hK)
theorem dn_call (G : FnOk X.prog X.w X.K X.mg X.base CX k f fd ps (lSp K (.b true) sp)) (hr : Room k X.A) (hg : Gl X x) (hm : X.mg x = some (.ref f)) (hk : PySem.W.keepIn X.K (.ref f) = true) (hb : Binds X.K fd ps []) (hx : Passes CX X E) (ha : PA X (e :: es) (lA F ds)) (hK : F.K = K := by rfl)
    (he : starEach (e :: es) X.env = (false, eval e X.env) :: starEach es X.env := by rfl) (hpl : (backTo pos (starEach es X.env)).any (·.1) = false := by rfl) (hdb : (x == ("__debug__" : Str)) = false := by decide) :
    PE X (.Call (.Name x p) (e :: es) [] pos) (lN F (dCall sp ds)) := PE.mono (pe_call G hr hg hm hk hb .nil hx ha hdb he hpl) (lcallN hK)
end
structure DEnds where
  nx : De → Prop
  rt : D → Prop
  bk : De → Prop := fun _ => False
  ct : De → Prop := fun _ => False
abbrev TDS := DEnds → De → Prop
def Pres (F : Fx) (L : List Addr) (H : Hp) (L' : List Addr) (H' : Hp) : Prop := ∀ a o, ¬ F.N L a → H a = some o → ¬ F.N L' a ∧ H' a = some o
theorem Pres.refl (F : Fx) (L : List Addr) (H : Hp) : Pres F L H L H := fun _ _ n h => ⟨n, h⟩
theorem Pres.trans {F : Fx} {L L1 L2 : List Addr} {H H1 H2 : Hp} (a : Pres F L H L1 H1) (b : Pres F L1 H1 L2 H2) : Pres F L H L2 H2 := fun x o n h => b x o (a x o n h).1 (a x o n h).2
theorem KeepW.pres {F : Fx} {env : De} {σ : L2.St} {L : List Addr} {H H' : Hp} (A : Abs F env σ L H) (k : KeepW F.W H H') : Pres F L H L H' := fun x o n h => ⟨n, k x o (nw_of A n) h⟩
structure RetOk (F : Fx) (H' : Hp) (v : V) (x : D) : Prop where
  kp : KeepW F.W F.H0 H'
  ok : F.W.ok H'
  dd : Dd F.K F.N0 F.W H' v x
  nw : F.fr = .b true → ∃ a, v = .ref a ∧ F.H0 a = none ∧ NewV F [] H' a x
  cj : ∀ j, F.fr = .ch j → Ch j F.H0 H' v x
def lS (F : Fx) (d : TDS) : TS := fun E σ H => ∃ env L P, Abs F env σ L H ∧ d P env ∧ (∀ env' σ' L' H', P.nx env' → Abs F env' σ' L' H' → Pres F L H L' H' → E.nx σ' H') ∧ (∀ x v H', P.rt x → RetOk F H' v x → E.rt v H') ∧
  (∀ env' σ' L' H', P.bk env' → Abs F env' σ' L' H' → Pres F L H L' H' → E.bk σ' H') ∧ (∀ env' σ' L' H', P.ct env' → Abs F env' σ' L' H' → Pres F L H L' H' → E.ct σ' H')
section
variable {X : Cx} {F : Fx} {e a b c : Expr} {es : List Expr} {d da db dc : TDE} {ds : TDA} {pos p : Pos} {st : Stmt} {rest sa sb : List Stmt} {s1 s2 : TDS} {tA : TDT}
def sNil : TDS := fun P env => P.nx env
def sSeq (s1 s2 : TDS) : TDS := fun P env => s1 { P with nx := s2 P } env
theorem ss_nil : PSs X [] (lS F sNil) := PSs.mono pss_nil fun E σ H ⟨env, L, P, A, pp, hn, _⟩ => hn env σ L H pp A (.refl _ _ _)
theorem ss_cons (h1 : PS X st (lS F s1)) (h2 : PSs X rest (lS F s2)) : PSs X (st :: rest) (lS F (sSeq s1 s2)) := PSs.mono (pss_cons h1 h2) fun E σ H ⟨env, L, P, A, pp, hn, hr, hb, hc⟩ =>
  ⟨env, L, _, A, pp, fun env' σ' L' H' pn A' pr => ⟨env', L', P, A', pn, fun env2 σ2 L2 H2 p2 A2 pr2 => hn env2 σ2 L2 H2 p2 A2 (pr.trans pr2), hr, fun env2 σ2 L2 H2 p2 A2 pr2 => hb env2 σ2 L2 H2 p2 A2 (pr.trans pr2), fun env2 σ2 L2 H2 p2 A2 pr2 => hc env2 σ2 L2 H2 p2 A2 (pr.trans pr2)⟩, hr, hb, hc⟩
theorem ss_one (h1 : PS X st (lS F s1)) : PSs X [st] (lS F s1) := pss_one h1
def sNever : TDS := fun _ _ => False
theorem ds_never : PS X st (lS F sNever) := PS.mono ps_never fun E σ H ⟨env, L, P, A, pp, _⟩ => pp
def sBrk : TDS := fun P env => P.bk env
def sCont : TDS := fun P env => P.ct env
theorem ds_cont : PS X (.Continue pos) (lS F sCont) := PS.mono ps_continue fun E σ H ⟨env, L, P, A, pp, _, _, _, hc⟩ => hc env σ L H pp A (.refl _ _ _)
def sIf (t : TDT) (s1 s2 : TDS) : TDS := fun P env => t env fun x => if x = true then s1 P env else s2 P env
theorem ds_if (hc : PT X c (lT F tA)) (ha : PSs X sa (lS F s1)) (hb : PSs X sb (lS F s2)) : PS X (.If c sa sb pos) (lS F (sIf tA s1 s2)) := PS.mono (ps_if hc ha hb) fun E σ H ⟨env, L, P, A, pp, hn, hr, hb, hc⟩ =>
  ⟨env, L, _, A, pp, fun x H1 px k1 o1 => by
    have pr : Pres F L H L H1 := k1.pres A
    cases x with
    | true => exact iteT ⟨env, L, P, A.step k1 o1, px, fun env2 σ2 L2 H2 p2 A2 pr2 => hn env2 σ2 L2 H2 p2 A2 (pr.trans pr2), hr, fun env2 σ2 L2 H2 p2 A2 pr2 => hb env2 σ2 L2 H2 p2 A2 (pr.trans pr2), fun env2 σ2 L2 H2 p2 A2 pr2 => hc env2 σ2 L2 H2 p2 A2 (pr.trans pr2)⟩
    | false => exact iteF ⟨env, L, P, A.step k1 o1, px, fun env2 σ2 L2 H2 p2 A2 pr2 => hn env2 σ2 L2 H2 p2 A2 (pr.trans pr2), hr, fun env2 σ2 L2 H2 p2 A2 pr2 => hb env2 σ2 L2 H2 p2 A2 (pr.trans pr2), fun env2 σ2 L2 H2 p2 A2 pr2 => hc env2 σ2 L2 H2 p2 A2 (pr.trans pr2)⟩⟩
theorem n0_sub {L : List Addr} : ∀ x, F.N0 x → F.N L x := fun x h => .inl h
theorem ret_of {env : De} {σ : L2.St} {L : List Addr} {H H' : Hp} {v : V} {x : D} (A : Abs F env σ L H) (k : KeepW F.W H H') (o : F.W.ok H') (h : Dd F.K (F.N L) F.W H' v x) (nf : F.fr = .b false) : RetOk F H' v x :=
  ⟨A.kp.trans k, o, h.keep (fun _ _ _ z => z) n0_sub, fun z => (by rw [nf] at z; cases z), fun j z => by rw [nf] at z; cases z⟩
def sRet (d : TDE) : TDS := fun P env => d env P.rt
theorem ds_ret (nf : F.fr = .b false) (he : PE X e (lC F d)) : PS X (.Return (some e) pos) (lS F (sRet d)) := PS.mono (ps_ret he) fun E σ H ⟨env, L, P, A, pp, hn, hr, _⟩ =>
  ⟨env, L, _, A, pp, fun x v H' px k o dd => hr x v H' px (ret_of A k o dd nf)⟩
theorem n0_new {L : List Addr} {a : Addr} : ∀ x, F.N [a] x → F.N (a :: L) x := fun x h => by
  rcases h with h | h
  · exact .inl h
  · rcases List.mem_cons.mp h with h | h
    · exact .inr (by rw [h]; exact List.mem_cons_self)
    · cases h
theorem NewV.small {L : List Addr} {H : Hp} {a : Addr} : ∀ {x : D}, NewV F L H a x → NewV F [] H a x
  | .lst ds, ⟨vs, h, g⟩ => ⟨vs, h, g.keep (fun _ _ _ z => z) n0_new⟩
  | .tup ds, ⟨vs, h, g⟩ => ⟨vs, h, g.keep (fun _ _ _ z => z) n0_new⟩
  | .dic ds, ⟨vs, h, e, g⟩ => ⟨vs, h, e, g.keep (fun _ _ _ z => z) n0_new⟩
  | .dct ds, ⟨vs, h, e, g⟩ => ⟨vs, h, e, g.keep (fun _ _ _ z => z) n0_new⟩
theorem ds_retN (he : PE X e (lN F d)) (nf : ∀ j, F.fr ≠ .ch j := by intro j h; cases h) : PS X (.Return (some e) pos) (lS F (sRet d)) := PS.mono (ps_ret he) fun E σ H ⟨env, L, P, A, pp, hn, hr, _⟩ =>
  ⟨env, L, _, A, pp, fun x a H' px k o n nv => hr x _ H' px ⟨A.kp.trans k, o, (nv.dd (A.new n)).keep (fun _ _ _ z => z) n0_sub, fun _ => ⟨a, rfl, free_of A.kp A.ok n, nv.small⟩, fun j z => (nf j z).elim⟩⟩
def owD : En → Option D
  | .ow ds => some (.lst ds)
  | .od ds => some (.dic ds)
  | .ot ds => some (.dct ds)
  | _ => none
def sRetO (i : Nat) : TDS := fun P env => ob (env[i]?.bind owD) P.rt
theorem ow_new {env : De} {σ : L2.St} {L : List Addr} {H : Hp} (A : Abs F env σ L H) {a : Addr} {e : En} {x : D} (h : EnOk F L H e (some (.ref a))) (hx : owD e = some x) : a ∈ L ∧ NewV F [] H a x := by
  have sub : ∀ y, F.N [a] y → a ∈ L → F.N L y := fun y hy ha => by
    rcases hy with hy | hy
    · exact .inl hy
    · rcases List.mem_cons.mp hy with hy | hy
      · rw [hy]; exact .inr ha
      · cases hy
  cases e with
  | ow ds =>
    cases hx
    obtain ⟨h1, vs, h2, h3⟩ := h
    exact ⟨h1, vs, h2, h3.keep (fun _ _ _ z => z) fun y hy => sub y hy h1⟩
  | od ds =>
    cases hx
    obtain ⟨h1, vs, h2, h4, h3⟩ := h
    exact ⟨h1, vs, h2, h4, h3.keep (fun _ _ _ z => z) fun y hy => sub y hy h1⟩
  | ot ds =>
    cases hx
    obtain ⟨h1, vs, h2, h4, h3⟩ := h
    exact ⟨h1, vs, h2, h4, h3.keep (fun _ _ _ z => z) fun y hy => sub y hy h1⟩
  | _ => cases hx
theorem owD_ref {L : List Addr} {H : Hp} {e : En} {v : V} {x : D} (h : EnOk F L H e (some v)) (hx : owD e = some x) : ∃ a, v = .ref a := by
  cases e <;> try cases hx
  all_goals (cases v <;> first | exact h.elim | exact ⟨_, rfl⟩)
theorem ds_retO {i : Nat} (he : PE X e (tVar i)) : PS X (.Return (some e) pos) (lS F (sRetO i)) := PS.mono (ps_ret he) fun E σ H ⟨env, L, P, A, pp, hn, hr, _⟩ => by
  obtain ⟨x, hx, px⟩ := ob_elim pp
  obtain ⟨en, h1, h2⟩ := Option.bind_eq_some_iff.mp hx
  obtain ⟨v, h3, h4⟩ := abs_at A h1 (by rintro rfl; cases h2)
  obtain ⟨a, rfl⟩ := owD_ref h4 h2
  obtain ⟨h5, h6⟩ := ow_new A h4 h2
  have nw : ¬ F.N [] a := fun z => by
    rcases z with z | z
    · exact A.out h5 z
    · cases z
  exact ⟨_, h3, hr x _ H px ⟨A.kp, A.ok, (h6.dd nw).keep (fun _ _ _ z => z) n0_sub, fun _ => ⟨a, rfl, (A.fr a h5).1, h6⟩, fun j _ xs ys ex => by subst ex; cases en <;> cases h2⟩⟩
def sRetE : TDS := fun P _ => P.rt .non
end
end DL
namespace DL
open PySem PySem.Spec PyProof.Rows L2 RK
section
variable {F : Fx} {env : De} {σ : L2.St} {L : List Addr} {H H' : Hp}
theorem Abs.setF (A : Abs F env σ L H) {v : V} {x : D} (h : Dd F.K (F.N L) F.W H v x) (i : Nat) : Abs F (env.set i (.fz x)) (σ.set i (some v)) L H := by
  refine ⟨A.ok, A.al, A.wn, A.kp, A.fr, by rw [List.length_set, List.length_set, A.ls], fun j l a ej el h1 h2 o1 o2 s1 s2 => ?_, fun j e y h1 h2 => ?_⟩
  · by_cases hj : i = j
    · subst hj
      by_cases hi : i < env.length
      · rw [List.getElem?_set_self hi] at h1
        cases h1
        cases o1
      · rw [List.getElem?_eq_none (by rw [List.length_set]; omega)] at h1
        cases h1
    · by_cases hl : i = l
      · subst hl
        by_cases hi : i < env.length
        · rw [List.getElem?_set_self hi] at h2
          cases h2
          cases o2
        · rw [List.getElem?_eq_none (by rw [List.length_set]; omega)] at h2
          cases h2
      · rw [List.getElem?_set_ne hj] at h1 s1
        rw [List.getElem?_set_ne hl] at h2 s2
        exact A.sep j l a ej el h1 h2 o1 o2 s1 s2
  · by_cases hj : i = j
    · subst hj
      by_cases hi : i < env.length
      · rw [List.getElem?_set_self hi] at h1
        rw [List.getElem?_set_self (by rw [← A.ls]; exact hi)] at h2
        cases h1
        cases h2
        exact h
      · rw [List.getElem?_eq_none (by rw [List.length_set]; omega)] at h1
        cases h1
    · rw [List.getElem?_set_ne hj] at h1 h2
      exact A.en j e y h1 h2
theorem Abs.grow (A : Abs F env σ L H) {L' : List Addr} (k : KeepW F.W H H') (o : F.W.ok H') (pr : Pres F L H L' H') (sub : ∀ a ∈ L, a ∈ L') (new : ∀ a ∈ L', a ∈ L ∨ (H a = none ∧ ∃ o, H' a = some o ∧ Plo o)) : Abs F env σ L' H' := by
  have w : ∀ a ∈ L, ¬ F.W.own a := fun a h z => A.out h (A.wn a z)
  refine ⟨o, A.al, A.wn, A.kp.trans k, fun a h => ?_, A.ls, A.sep, fun i e x h1 h2 => ?_⟩
  · rcases new a h with h | ⟨h1, h2⟩
    · obtain ⟨h1, u, h2, pl⟩ := A.fr a h
      exact ⟨h1, u, k a u (w a h) h2, pl⟩
    · exact ⟨free_of A.kp A.ok h1, h2⟩
  · have q := A.en i e x h1 h2
    cases e with
    | no => exact trivial
    | fz d => cases x with
      | none => exact q.elim
      | some v => exact Dd.pres pr q
    | ow ds => cases x with
      | none => exact q.elim
      | some v => cases v with
        | ref a =>
          obtain ⟨q1, vs, q2, q3⟩ := q
          exact ⟨sub a q1, vs, k a _ (w a q1) q2, q3.pres pr⟩
        | _ => exact q.elim
    | od ds => cases x with
      | none => exact q.elim
      | some v => cases v with
        | ref a =>
          obtain ⟨q1, vs, q2, q4, q3⟩ := q
          exact ⟨sub a q1, vs, k a _ (w a q1) q2, q4, q3.pres pr⟩
        | _ => exact q.elim
    | ot ds => cases x with
      | none => exact q.elim
      | some v => cases v with
        | ref a =>
          obtain ⟨q1, vs, q2, q4, q3⟩ := q
          exact ⟨sub a q1, vs, k a _ (w a q1) q2, q4, q3.pres pr⟩
        | _ => exact q.elim
theorem pres_cons (A : Abs F env σ L H) (k : KeepW F.W H H') {a : Addr} (n : H a = none) : Pres F L H (a :: L) H' := fun x o q h => ⟨fun z => by
  rcases z with z | z
  · exact q (.inl z)
  · rcases List.mem_cons.mp z with z | z
    · rw [z, n] at h
      cases h
    · exact q (.inr z), k x o (nw_of A q) h⟩
theorem new_there {F : Fx} {L : List Addr} {H : Hp} {a : Addr} : ∀ {x : D}, NewV F L H a x → ∃ o, H a = some o ∧ Plo o
  | .lst ds, ⟨vs, h, _⟩ => ⟨_, h, True.intro⟩
  | .tup ds, ⟨vs, h, _⟩ => ⟨_, h, True.intro⟩
  | .dic ds, ⟨vs, h, _⟩ => ⟨_, h, True.intro⟩
  | .dct ds, ⟨vs, h, _⟩ => ⟨_, h, True.intro⟩
def enOf : D → Option En
  | .lst xs => some (.ow xs)
  | .dic xs => some (.od xs)
  | .dct xs => some (.ot xs)
  | _ => none
theorem en_new {a : Addr} : ∀ {x : D} {e : En}, NewV F L H a x → enOf x = some e → EnOk F (a :: L) H e (some (.ref a)) ∧ e.isOw = true
  | .lst xs, _, ⟨vs, h, g⟩, q => by cases q; exact ⟨⟨List.mem_cons_self, vs, h, g⟩, rfl⟩
  | .dic xs, _, ⟨vs, h, e, g⟩, q => by cases q; exact ⟨⟨List.mem_cons_self, vs, h, e, g⟩, rfl⟩
  | .dct xs, _, ⟨vs, h, e, g⟩, q => by cases q; exact ⟨⟨List.mem_cons_self, vs, h, e, g⟩, rfl⟩
theorem Abs.setO (A : Abs F env σ L H) (k : KeepW F.W H H') (o : F.W.ok H') {a : Addr} {x : D} {e : En} (n : H a = none) (h : NewV F L H' a x) (he : enOf x = some e) (i : Nat) : Abs F (env.set i e) (σ.set i (some (.ref a))) (a :: L) H' := by
  have pr := pres_cons A k n
  have B : Abs F env σ (a :: L) H' := A.grow k o pr (fun b hb => List.mem_cons_of_mem _ hb) fun b hb => by
    rcases List.mem_cons.mp hb with hb | hb
    · exact .inr ⟨hb ▸ n, hb ▸ new_there h⟩
    · exact .inl hb
  obtain ⟨en, ow⟩ := en_new h he
  have no : ∀ (j : Nat) (ej : En), env[j]? = some ej → ej.isOw = true → σ[j]? = some (some (.ref a)) → False := fun j ej h1 h2 h3 => by
    have q := A.en j ej _ h1 h3
    have al : a ∈ L := by
      cases ej with
      | ow _ => exact q.1
      | od _ => exact q.1
      | ot _ => exact q.1
      | no => cases h2
      | fz _ => cases h2
    obtain ⟨_, u, hu, _⟩ := A.fr a al
    rw [n] at hu
    cases hu
  refine ⟨B.ok, B.al, B.wn, B.kp, B.fr, by rw [List.length_set, List.length_set, A.ls], fun j l b ej el h1 h2 o1 o2 s1 s2 => ?_, fun j e' y h1 h2 => ?_⟩
  · by_cases hi : i < env.length
    · have hi2 : i < σ.length := by rw [← A.ls]; exact hi
      by_cases hj : i = j
      · by_cases hl : i = l
        · omega
        · subst hj
          rw [List.getElem?_set_self hi2] at s1
          cases s1
          rw [List.getElem?_set_ne hl] at h2 s2
          exact (no l el h2 o2 s2).elim
      · rw [List.getElem?_set_ne hj] at h1 s1
        by_cases hl : i = l
        · subst hl
          rw [List.getElem?_set_self hi2] at s2
          cases s2
          exact (no j ej h1 o1 s1).elim
        · rw [List.getElem?_set_ne hl] at h2 s2
          exact A.sep j l b ej el h1 h2 o1 o2 s1 s2
    · have e1 : env.set i e = env := List.set_eq_of_length_le (by omega)
      have e2 : σ.set i (some (V.ref a)) = σ := List.set_eq_of_length_le (by rw [← A.ls]; omega)
      rw [e1] at h1 h2
      rw [e2] at s1 s2
      exact A.sep j l b ej el h1 h2 o1 o2 s1 s2
  · by_cases hj : i = j
    · subst hj
      by_cases hi : i < env.length
      · rw [List.getElem?_set_self hi] at h1
        rw [List.getElem?_set_self (by rw [← A.ls]; exact hi)] at h2
        cases h1
        cases h2
        exact en
      · rw [List.getElem?_eq_none (by rw [List.length_set]; omega)] at h1
        cases h1
    · rw [List.getElem?_set_ne hj] at h1 h2
      exact B.en j e' y h1 h2
theorem Abs.write (A : Abs F env σ L H) {i : Nat} {a : Addr} {e e' : En} {o' : HO} (hi : env[i]? = some e) (ow : e.isOw = true) (hs : σ[i]? = some (some (.ref a))) (ha : a ∈ L) (ow' : e'.isOw = true)
    (new : EnOk F L (upd H a o') e' (some (.ref a))) (po : Plo o' := by exact True.intro) : Abs F (env.set i e') σ L (upd H a o') ∧ Pres F L H L (upd H a o') := by
  have na : ¬ F.N0 a := A.out ha
  have nw : ¬ F.W.own a := fun z => na (A.wn a z)
  have pr : Pres F L H L (upd H a o') := fun x u q h => ⟨q, by
    have ne : x ≠ a := fun z => q (.inr (by rw [z]; exact ha))
    rw [upd_ne ne]
    exact h⟩
  have hil : i < env.length := (List.getElem?_eq_some_iff.mp hi).1
  refine ⟨⟨?_, A.al, A.wn, fun x u q h => ?_, fun b hb => ?_, by rw [List.length_set, A.ls], fun j l b ej el h1 h2 o1 o2 s1 s2 => ?_, fun j e2 y h1 h2 => ?_⟩, pr⟩
  · exact Wd.st A.ok (n := noT_upd po.ntb) fun b u h q => by
      have ne : b ≠ a := fun z => by
        rcases q with q | q
        · exact nw (by rw [← z]; exact q)
        · obtain ⟨_, o, e, pl⟩ := A.fr a ha
          rw [z, e] at h
          exact q (Option.some.inj h ▸ pl)
      rw [upd_ne ne]
      exact h
  · have hx := A.kp x u q h
    have ne : x ≠ a := fun z => by
      rw [z, (A.fr a ha).1] at h
      cases h
    rw [upd_ne ne]
    exact hx
  · refine ⟨(A.fr b hb).1, ?_⟩
    by_cases e : b = a
    · subst e
      exact ⟨_, upd_same, po⟩
    · rw [upd_ne e]
      exact (A.fr b hb).2
  · have f1 : ∀ (j : Nat) (ej : En), (env.set i e')[j]? = some ej → ej.isOw = true → ∃ e0 : En, env[j]? = some e0 ∧ e0.isOw = true := fun j ej h o => by
      by_cases hj : i = j
      · subst hj
        exact ⟨e, hi, ow⟩
      · rw [List.getElem?_set_ne hj] at h
        exact ⟨ej, h, o⟩
    obtain ⟨e1, g1, g2⟩ := f1 j ej h1 o1
    obtain ⟨e3, g3, g4⟩ := f1 l el h2 o2
    exact A.sep j l b e1 e3 g1 g3 g2 g4 s1 s2
  · by_cases hj : i = j
    · subst hj
      rw [List.getElem?_set_self hil] at h1
      cases h1
      rw [hs] at h2
      cases h2
      exact new
    · rw [List.getElem?_set_ne hj] at h1
      refine EnOk.keep A (fun x u q h => (pr x u q h).2) (fun _ z => z) (fun b hb ob hbL => ⟨hbL, fun u hu => ?_⟩) (A.en j e2 y h1 h2)
      have : b ≠ a := fun z => hj (A.sep i j a e e2 hi h1 ow ob hs (by rw [h2, hb, z]))
      rw [upd_ne this]
      exact hu
end
end DL
namespace DL
open PySem PySem.Spec PyProof.Rows L2 RK
section
variable {F : Fx} {env : De} {σ : L2.St} {L : List Addr} {H H' : Hp}
def Lone (env : De) (σ : L2.St) (a : Addr) : Prop := ∀ (j : Nat) (ej : En), env[j]? = some ej → ej.isOw = true → σ[j]? = some (some (.ref a)) → False
theorem Abs.lone (A : Abs F env σ L H) {a : Addr} (n : H a = none) : Lone env σ a := fun j ej h1 h2 h3 => by
  have q := A.en j ej _ h1 h3
  have al : a ∈ L := by
    cases ej with
    | ow _ => exact q.1
    | od _ => exact q.1
    | ot _ => exact q.1
    | no => cases h2
    | fz _ => cases h2
  obtain ⟨_, u, hu, _⟩ := A.fr a al
  rw [n] at hu
  cases hu
theorem Abs.setW (A : Abs F env σ L H) {a : Addr} {e : En} (no : Lone env σ a) (en : EnOk F L H e (some (.ref a))) (i : Nat) : Abs F (env.set i e) (σ.set i (some (.ref a))) L H := by
  refine ⟨A.ok, A.al, A.wn, A.kp, A.fr, by rw [List.length_set, List.length_set, A.ls], fun j l b ej el h1 h2 o1 o2 s1 s2 => ?_, fun j e' y h1 h2 => ?_⟩
  · by_cases hi : i < env.length
    · have hi2 : i < σ.length := by rw [← A.ls]; exact hi
      by_cases hj : i = j
      · by_cases hl : i = l
        · omega
        · subst hj
          rw [List.getElem?_set_self hi2] at s1
          cases s1
          rw [List.getElem?_set_ne hl] at h2 s2
          exact (no l el h2 o2 s2).elim
      · rw [List.getElem?_set_ne hj] at h1 s1
        by_cases hl : i = l
        · subst hl
          rw [List.getElem?_set_self hi2] at s2
          cases s2
          exact (no j ej h1 o1 s1).elim
        · rw [List.getElem?_set_ne hl] at h2 s2
          exact A.sep j l b ej el h1 h2 o1 o2 s1 s2
    · have e1 : env.set i e = env := List.set_eq_of_length_le (by omega)
      have e2 : σ.set i (some (V.ref a)) = σ := List.set_eq_of_length_le (by rw [← A.ls]; omega)
      rw [e1] at h1 h2
      rw [e2] at s1 s2
      exact A.sep j l b ej el h1 h2 o1 o2 s1 s2
  · by_cases hj : i = j
    · subst hj
      by_cases hi : i < env.length
      · rw [List.getElem?_set_self hi] at h1
        rw [List.getElem?_set_self (by rw [← A.ls]; exact hi)] at h2
        cases h1
        cases h2
        exact en
      · rw [List.getElem?_eq_none (by rw [List.length_set]; omega)] at h1
        cases h1
    · rw [List.getElem?_set_ne hj] at h1 h2
      exact A.en j e' y h1 h2
theorem Lone.setF {a : Addr} (h : Lone env σ a) (i : Nat) (x : D) (v : V) (l : env.length = σ.length) : Lone (env.set i (.fz x)) (σ.set i (some v)) a := fun j ej h1 h2 h3 => by
  by_cases hj : i = j
  · subst hj
    by_cases hi : i < env.length
    · rw [List.getElem?_set_self hi] at h1
      cases h1
      cases h2
    · rw [List.getElem?_eq_none (by rw [List.length_set]; omega)] at h1
      cases h1
  · rw [List.getElem?_set_ne hj] at h1 h3
    exact h j ej h1 h2 h3
theorem Lone.setW {a b : Addr} (h : Lone env σ a) (i : Nat) (e : En) (n : b ≠ a) (l : env.length = σ.length) : Lone (env.set i e) (σ.set i (some (.ref b))) a := fun j ej h1 h2 h3 => by
  by_cases hj : i = j
  · subst hj
    by_cases hi : i < env.length
    · rw [List.getElem?_set_self (by rw [← l]; exact hi)] at h3
      cases h3
      exact n rfl
    · rw [List.getElem?_eq_none (by rw [List.length_set]; omega)] at h1
      cases h1
  · rw [List.getElem?_set_ne hj] at h1 h3
    exact h j ej h1 h2 h3
theorem Abs.hold (A : Abs F env σ L H) (k : KeepW F.W H H') (o : F.W.ok H') {a : Addr} {x : D} (n : H a = none) (h : NewV F L H' a x) : Abs F env σ (a :: L) H' :=
  A.grow k o (pres_cons A k n) (fun b hb => List.mem_cons_of_mem _ hb) fun b hb => by
    rcases List.mem_cons.mp hb with hb | hb
    · exact .inr ⟨hb ▸ n, hb ▸ new_there h⟩
    · exact .inl hb
theorem NewV.step {a : Addr} (A : Abs F env σ (a :: L) H) (k : KeepW F.W H H') : ∀ {x : D}, NewV F L H a x → NewV F L H' a x := fun {x} h => by
  have w : ¬ F.W.own a := fun z => A.out List.mem_cons_self (A.wn a z)
  cases x with
  | lst ds => obtain ⟨vs, h1, h2⟩ := h; exact ⟨vs, k a _ w h1, A.kda k h2⟩
  | tup ds => obtain ⟨vs, h1, h2⟩ := h; exact ⟨vs, k a _ w h1, A.kda k h2⟩
  | dic ds => obtain ⟨vs, h1, h3, h2⟩ := h; exact ⟨vs, k a _ w h1, h3, A.kda k h2⟩
  | dct ds => obtain ⟨vs, h1, h3, h2⟩ := h; exact ⟨vs, k a _ w h1, h3, A.kda k h2⟩
  | _ => exact h
end
def sSet (i : Nat) (d : TDE) : TDS := fun P env => d env fun x => P.nx (env.set i (.fz x))
def sSetO (i : Nat) (d : TDE) : TDS := fun P env => d env fun x => ob (enOf x) fun e => P.nx (env.set i e)
def sDrop (d : TDE) : TDS := fun P env => d env fun _ => P.nx env
section
variable {X : Cx} {F : Fx} {e a b c : Expr} {es : List Expr} {d da db dc : TDE} {ds : TDA} {pos p : Pos} {i j l : Nat}
theorem l_setF {t : TE} (h : ∀ σ H Q, lC F d σ H Q → t σ H Q) : ∀ E σ H, lS F (sSet i d) E σ H → tAsg t (gName i) E σ H := fun E σ H ⟨env, L, P, A, pp, hn, _⟩ =>
  h σ H _ ⟨env, L, _, A, pp, fun x v H1 px k o dd => hn _ _ L H1 px ((A.step k o).setF dd i) (k.pres A)⟩
theorem l_setO {t : TE} (h : ∀ σ H Q, lN F d σ H Q → t σ H Q) : ∀ E σ H, lS F (sSetO i d) E σ H → tAsg t (gName i) E σ H := fun E σ H ⟨env, L, P, A, pp, hn, _⟩ =>
  h σ H _ ⟨env, L, _, A, pp, fun x v H1 px k o n dd => by
    obtain ⟨en, he, pn⟩ := ob_elim px
    exact hn _ _ _ H1 pn (A.setO k o n dd he i) (pres_cons A k n)⟩
theorem ds_set {x : Str} {pos' : Pos} (hN : X.N.Nodup) (hi : X.N[i]? = some x) (hx : Loc X.env.scope x) (he : PE X e (lC F d)) (hs : swapsWith e (some (.Name x pos')) pos.line X.env = pure false := by rfl) (hf : X.fn x = true ∨ X.env.scope.names.lookup x = some .local := by first | exact .inl rfl | exact .inr rfl | assumption) :
    PS X (.Assign [.Name x pos'] e pos) (lS F (sSet i d)) := PS.mono (ps_set hN hi hx he hs hf) (l_setF fun _ _ _ h => h)
theorem ds_setO {x : Str} {pos' : Pos} (hN : X.N.Nodup) (hi : X.N[i]? = some x) (hx : Loc X.env.scope x) (he : PE X e (lN F d)) (hs : swapsWith e (some (.Name x pos')) pos.line X.env = pure false := by rfl) (hf : X.fn x = true ∨ X.env.scope.names.lookup x = some .local := by first | exact .inl rfl | exact .inr rfl | assumption) :
    PS X (.Assign [.Name x pos'] e pos) (lS F (sSetO i d)) := PS.mono (ps_set hN hi hx he hs hf) (l_setO fun _ _ _ h => h)
theorem ds_expr (he : PE X e (lC F d)) (hs : swapsWith e none pos.line X.env = pure false := by rfl) : PS X (.Expr e pos) (lS F (sDrop d)) := PS.mono (ps_expr he hs) fun E σ H ⟨env, L, P, A, pp, hn, _⟩ =>
  ⟨env, L, _, A, pp, fun x v H1 px k o dd => hn env σ L H1 px (A.step k o) (k.pres A)⟩
abbrev TDG := D → De → (De → Prop) → Prop
abbrev TDGs := List D → De → (De → Prop) → Prop
def lG (F : Fx) (S : List Nat) (g : TDG) : TG := fun v σ H Q => ∃ env L x P, Abs F env σ L H ∧ Dd F.K (F.N L) F.W H v x ∧ g x env P ∧ ∀ env' σ', P env' → Abs F env' σ' L H → (∀ vs : List Nat, (∀ i ∈ S, i ∈ vs) → wipe σ' vs = wipe σ vs) → (∀ a, Lone env σ a → Lone env' σ' a) → Q σ' H
def lGs (F : Fx) (S : List Nat) (g : TDGs) : TGs := fun vs σ H Q => ∃ env L xs P, Abs F env σ L H ∧ DdAll F.K (F.N L) F.W H vs xs ∧ g xs env P ∧ ∀ env' σ', P env' → Abs F env' σ' L H → (∀ us : List Nat, (∀ i ∈ S, i ∈ us) → wipe σ' us = wipe σ us) → (∀ a, Lone env σ a → Lone env' σ' a) → Q σ' H
theorem wipe_set {σ : L2.St} {i : Nat} {v : Option V} : ∀ {vs : List Nat}, i ∈ vs → wipe (σ.set i v) vs = wipe σ vs
  | [], h => by cases h
  | w :: vs, h => by
    unfold wipe
    by_cases hw : i ∈ vs
    · rw [wipe_set hw]
    · have e : i = w := by
        rcases List.mem_cons.mp h with h | h
        · exact h
        · exact (hw h).elim
      subst e
      have comm : ∀ us : List Nat, i ∉ us → wipe (σ.set i v) us = (wipe σ us).set i v := by
        intro us
        induction us with
        | nil => intro _; rfl
        | cons u us ih =>
          intro hu
          unfold wipe
          rw [ih (fun z => hu (List.mem_cons_of_mem _ z)), List.set_comm]
          exact fun z => hu (by rw [z]; exact List.mem_cons_self)
      rw [comm vs hw, List.set_set]
theorem PG.mono {tg : Expr} {t t' : TG} (h : PG X tg t) (m : ∀ v σ H Q, t' v σ H Q → t v σ H Q) : PG X tg t' := ⟨fun pins s σ H v u Q I r q => h.run pins s σ H v u Q I r (m v σ H Q q)⟩
theorem PGs.mono {tg : List Expr} {t t' : TGs} (h : PGs X tg t) (m : ∀ v σ H Q, t' v σ H Q → t v σ H Q) : PGs X tg t' := ⟨fun pins s σ H v u Q I r q => h.run pins s σ H v u Q I r (m v σ H Q q)⟩
def gNm (i : Nat) : TDG := fun x env P => P (env.set i (.fz x))
theorem dg_name {x : Str} (hN : X.N.Nodup) (hi : X.N[i]? = some x) (hx : Loc X.env.scope x) (hf : X.fn x = true ∨ X.env.scope.names.lookup x = some .local := by first | exact .inl rfl | exact .inr rfl | assumption) : PG X (.Name x pos) (lG F [i] (gNm i)) :=
  PG.mono (pg_name hN hi hx hf) fun v σ H Q ⟨env, L, x, P, A, dd, g, q⟩ => q _ _ g (A.setF dd i) (fun vs h => wipe_set (h i List.mem_cons_self)) fun a h => h.setF i _ _ A.ls
def gsNil : TDGs := fun xs env P => xs = [] ∧ P env
def gsCons (g : TDG) (gs : TDGs) : TDGs := fun xs env P => match xs with | x :: r => g x env fun env' => gs r env' P | [] => False
theorem dgs_nil : PGs X [] (lGs F [] gsNil) := PGs.mono pgs_nil fun vs σ H Q ⟨env, L, xs, P, A, dd, g, q⟩ => by
  obtain ⟨rfl, g⟩ := g
  cases dd
  exact ⟨rfl, q env σ g A (fun _ _ => rfl) fun _ h => h⟩
theorem l_gcons {S S' : List Nat} {g : TDG} {gs : TDGs} : ∀ vs σ H Q, lGs F (S ++ S') (gsCons g gs) vs σ H Q → gCons (lG F S g) (lGs F S' gs) vs σ H Q := fun vs σ H Q ⟨env, L, xs, P, A, dd, gg, q⟩ => by
    cases dd with
    | nil => exact gg.elim
    | cons h t =>
      refine ⟨_, _, rfl, env, L, _, _, A, h, gg, fun env1 σ1 p1 A1 w1 n1 => ⟨env1, L, _, _, A1, t, p1, fun env2 σ2 p2 A2 w2 n2 => q env2 σ2 p2 A2 (fun us hu => ?_) fun a h => n2 a (n1 a h)⟩⟩
      rw [w2 us (fun i hi => hu i (List.mem_append_right _ hi)), w1 us (fun i hi => hu i (List.mem_append_left _ hi))]
def gTp (n : Nat) (gs : TDGs) : TDG := fun x env P => match x with | .tup xs => xs.length = n ∧ gs xs env P | _ => False
theorem l_gtup {S : List Nat} {n : Nat} {gs : TDGs} {K : PySem.W.Frag} (hK : F.K = K) : ∀ v σ H Q, lG F S (gTp n gs) v σ H Q → gTup K n (lGs F S gs) v σ H Q := fun v σ H Q ⟨env, L, x, P, A, dd, g, q⟩ => by
  cases x with
  | tup xs =>
    obtain ⟨a, vs, rfl, h1, _, h2⟩ := dd_tupE dd
    exact ⟨a, vs, rfl, SqT.of h1, h2.len.trans g.1, env, L, xs, P, A, h2, g.2, q⟩
  | _ => exact g.elim
def sAsg (d : TDE) (g : TDG) : TDS := fun P env => d env fun x => g x env P.nx
theorem l_asg {S : List Nat} {g : TDG} : ∀ E σ H, lS F (sAsg d g) E σ H → tAsg (lC F d) (lG F S g) E σ H := fun E σ H ⟨env, L, P, A, pp, hn, _⟩ =>
  ⟨env, L, _, A, pp, fun x v H1 px k o dd => ⟨env, L, x, _, A.step k o, dd, px, fun env' σ' p' A' _ _ => hn env' σ' L H1 p' A' (k.pres A)⟩⟩
def kn : Bool → D → Option En
  | true, x => enOf x
  | false, x => some (.fz x)
def sPar (i j : Nat) (ki kj : Bool) (da db : TDE) : TDS := fun P env => da env fun x => db env fun y => ob (kn ki x) fun ex => ob (kn kj y) fun ey => P.nx ((env.set i ex).set j ey)
theorem l_par : ∀ E σ H, lS F (sPar i j false false da db) E σ H → tPar i j (tCons (lC F da) (tCons (lC F db) tNil)) E σ H := fun E σ H ⟨env, L, P, A, pp, hn, _⟩ =>
  ⟨env, L, _, A, pp, fun x v H1 px k1 o1 d1 => ⟨env, L, _, A.step k1 o1, px, fun y u H2 py k2 o2 d2 => ⟨v, u, rfl, hn _ _ L H2 py ((((A.step k1 o1).step k2 o2).setF ((A.step k1 o1).kd k2 d1) i).setF d2 j) ((k1.trans k2).pres A)⟩⟩⟩
end
end DL
namespace DL
open PySem PySem.Spec PyProof.Rows L2 RK
section
variable {X : Cx} {F : Fx} {e a b c o : Expr} {es : List Expr} {d da db dc : TDE} {ds : TDA} {pos p apos cpos : Pos} {i j l : Nat}
def owAt (env : De) (i : Nat) : Option (List D) := env[i]?.bind fun e => match e with | .ow xs => some xs | _ => none
theorem owAt_en {env : De} {i : Nat} {xs : List D} (h : owAt env i = some xs) : env[i]? = some (.ow xs) := by
  obtain ⟨e, h1, h2⟩ := Option.bind_eq_some_iff.mp h
  cases e <;> cases h2
  exact h1
theorem ow_get {env : De} {σ : L2.St} {L : List Addr} {H : Hp} (A : Abs F env σ L H) {xs : List D} (h : owAt env i = some xs) : ∃ a vs, σ[i]? = some (some (.ref a)) ∧ a ∈ L ∧ H a = some (.lst vs) ∧ DdAll F.K (F.N L) F.W H vs xs := by
  obtain ⟨v, h1, h2⟩ := abs_at A (owAt_en h) (by intro z; cases z)
  cases v with
  | ref a => obtain ⟨q1, vs, q2, q3⟩ := h2; exact ⟨a, vs, h1, q1, q2, q3⟩
  | _ => exact h2.elim
theorem ow_put {env : De} {σ : L2.St} {L : List Addr} {H : Hp} (A : Abs F env σ L H) {xs ys : List D} (h : owAt env i = some xs) {a : Addr} (hs : σ[i]? = some (some (.ref a))) (ha : a ∈ L) {us : List V} (hu : DdAll F.K (F.N L) F.W H us ys) :
    Abs F (env.set i (.ow ys)) σ L (upd H a (.lst us)) ∧ Pres F L H L (upd H a (.lst us)) := by
  refine A.write (owAt_en h) rfl hs ha rfl ⟨ha, us, upd_same, hu.keep (fun x u q h => ?_) fun _ z => z⟩
  have ne : x ≠ a := fun z => q (.inr (by rw [z]; exact ha))
  rw [upd_ne ne]
  exact h
def sApp (i : Nat) (d : TDE) : TDS := fun P env => ob (owAt env i) fun xs => d env fun x => xs.length < sizeLine ∧ P.nx (env.set i (.ow (xs ++ [x])))
theorem l_app {K : PySem.W.Frag} : ∀ E σ H, lS F (sApp i d) E σ H → tDrop (tBM K "list" rAppend (tVar i) (tCons (lC F d) tNil)) E σ H := fun E σ H ⟨env, L, P, A, pp, hn, _⟩ => by
  obtain ⟨xs, h, pp⟩ := ob_elim pp
  obtain ⟨a, vs, hs, ha, hv, hd⟩ := ow_get A h
  refine ⟨_, hs, .inl ⟨rfl, vs, SqL.of hv⟩, env, L, _, A, pp, fun x v H1 px k1 o1 d1 => ?_⟩
  have A1 := A.step k1 o1
  obtain ⟨a2, vs2, hs2, ha2, hv2, hd2⟩ := ow_get A1 h
  rw [hs] at hs2
  cases hs2
  obtain ⟨B, pr⟩ := ow_put A1 h hs ha2 (hd2.app (.cons d1 .nil))
  exact ⟨a, vs2, v, rfl, rfl, hv2, by rw [hd2.len]; exact px.1, hn _ _ _ _ px.2 B ((k1.pres A).trans pr)⟩
theorem ds_app (ho : PE X o (tVar i)) (he : PE X e (lC F d)) (hbase : attributeBase o "append" X.env (eval o X.env) = eval o X.env := by rfl)
    (hfew : ((backTo cpos (starEach [e] X.env)).all (fun x => !x.1) && (backToKw cpos (keywordEach [] X.env)).all (fun x => x.1.isSome) && decide (([e] : List Expr).length + ([] : List Keyword).length + (if ([] : List Keyword).isEmpty then 0 else 1) < 30)) = true := by rfl)
    (hline : (apos.endLine == cpos.line) = true := by rfl) (hs : starEach [e] X.env = (false, eval e X.env) :: starEach [] X.env := by rfl) (hplain : (backTo cpos (starEach [] X.env)).any (·.1) = false := by rfl)
    (hsw : swapsWith (.Call (.Attribute o "append" apos) [e] [] cpos) none pos.line X.env = pure false := by rfl) :
    PS X (.Expr (.Call (.Attribute o "append" apos) [e] [] cpos) pos) (lS F (sApp i d)) := PS.mono (ps_expr (pe_bm PySem.F.plainAttrs_list PySem.F.slot_list_append PySem.F.type_list_append mt_append ho (pa_cons he pa_nil hs) hbase hfew hline hs hplain) hsw) l_app
def sIns (i : Nat) (da db : TDE) : TDS := fun P env => ob (owAt env i) fun xs => da env fun y => db env fun x => match y with
  | .int n => xs.length < sizeLine ∧ 0 ≤ n ∧ n < 2 ^ 63 ∧ P.nx (env.set i (.ow (xs.take n.toNat ++ [x] ++ xs.drop n.toNat)))
  | _ => False
theorem ds_ins (ho : PE X o (tVar i)) (ha : PE X a (lC F da)) (hb : PE X b (lC F db)) (hbase : attributeBase o "insert" X.env (eval o X.env) = eval o X.env := by rfl)
    (hfew : ((backTo cpos (starEach [a, b] X.env)).all (fun x => !x.1) && (backToKw cpos (keywordEach [] X.env)).all (fun x => x.1.isSome) && decide (([a, b] : List Expr).length + ([] : List Keyword).length + (if ([] : List Keyword).isEmpty then 0 else 1) < 30)) = true := by rfl)
    (hline : (apos.endLine == cpos.line) = true := by rfl) (hs : starEach [a, b] X.env = (false, eval a X.env) :: starEach [b] X.env := by rfl) (hs2 : starEach [b] X.env = (false, eval b X.env) :: starEach [] X.env := by rfl) (hplain : (backTo cpos (starEach [b] X.env)).any (·.1) = false := by rfl)
    (hsw : swapsWith (.Call (.Attribute o "insert" apos) [a, b] [] cpos) none pos.line X.env = pure false := by rfl) :
    PS X (.Expr (.Call (.Attribute o "insert" apos) [a, b] [] cpos) pos) (lS F (sIns i da db)) := PS.mono (ps_expr (pe_bm PySem.F.plainAttrs_list PySem.F.slot_list_insert PySem.F.type_list_insert mt_insert ho (pa_cons ha (pa_cons hb pa_nil hs2) hs) hbase hfew hline hs hplain) hsw) fun E σ H ⟨env, L, P, A, pp, hn, _⟩ => by
  obtain ⟨xs, h, pp⟩ := ob_elim pp
  obtain ⟨t, vs, hs, ha, hv, hd⟩ := ow_get A h
  refine ⟨_, hs, .inl ⟨rfl, vs, SqL.of hv⟩, env, L, _, A, pp, fun y w H1 px k1 o1 d1 => ⟨env, L, _, A.step k1 o1, px, fun x v H2 px k2 o2 d2 => ?_⟩⟩
  cases y with
  | int n =>
    cases d1
    have A2 := (A.step k1 o1).step k2 o2
    obtain ⟨a2, vs2, hs2, ha2, hv2, hd2⟩ := ow_get A2 h
    rw [hs] at hs2
    cases hs2
    obtain ⟨B, pr⟩ := ow_put A2 h hs ha2 (((hd2.take n.toNat).app (.cons d2 .nil)).app (hd2.drop n.toNat))
    exact ⟨t, vs2, n, v, rfl, rfl, hv2, by rw [hd2.len]; exact px.1, px.2.1, px.2.2.1, hn _ _ _ _ px.2.2.2 B (((k1.trans k2).pres A).trans pr)⟩
  | _ => exact px.elim
def sExt (i : Nat) (d : TDE) : TDS := fun P env => ob (owAt env i) fun xs => d env fun x => match x with | .lst ys => xs.length + ys.length ≤ sizeLine ∧ P.nx (env.set i (.ow (xs ++ ys))) | _ => False
theorem ds_ext (ho : PE X o (tVar i)) (he : PE X e (lB F d)) (hbase : attributeBase o "extend" X.env (eval o X.env) = eval o X.env := by rfl)
    (hfew : ((backTo cpos (starEach [e] X.env)).all (fun x => !x.1) && (backToKw cpos (keywordEach [] X.env)).all (fun x => x.1.isSome) && decide (([e] : List Expr).length + ([] : List Keyword).length + (if ([] : List Keyword).isEmpty then 0 else 1) < 30)) = true := by rfl)
    (hline : (apos.endLine == cpos.line) = true := by rfl) (hs : starEach [e] X.env = (false, eval e X.env) :: starEach [] X.env := by rfl) (hplain : (backTo cpos (starEach [] X.env)).any (·.1) = false := by rfl)
    (hsw : swapsWith (.Call (.Attribute o "extend" apos) [e] [] cpos) none pos.line X.env = pure false := by rfl) :
    PS X (.Expr (.Call (.Attribute o "extend" apos) [e] [] cpos) pos) (lS F (sExt i d)) := PS.mono (ps_expr (pe_bm PySem.F.plainAttrs_list PySem.F.slot_list_extend PySem.F.type_list_extend mt_extend ho (pa_cons he pa_nil hs) hbase hfew hline hs hplain) hsw) fun E σ H ⟨env, L, P, A, pp, hn, _⟩ => by
  obtain ⟨xs, h, pp⟩ := ob_elim pp
  obtain ⟨t, vs, hs, ha, hv, hd⟩ := ow_get A h
  refine ⟨_, hs, .inl ⟨rfl, vs, SqL.of hv⟩, env, L, _, A, pp, fun x v H1 px k1 o1 b1 => ?_⟩
  cases x with
  | lst ys =>
    have A1 := A.step k1 o1
    obtain ⟨a2, vs2, hs2, ha2, hv2, hd2⟩ := ow_get A1 h
    rw [hs] at hs2
    cases hs2
    obtain ⟨q, us, rfl, g1, g2⟩ := bw_lst b1
    obtain ⟨B, pr⟩ := ow_put A1 h hs ha2 (hd2.app g2)
    exact ⟨t, q, vs2, us, rfl, rfl, hv2, g1, by rw [hd2.len, g2.len]; exact px.1, hn _ _ _ _ px.2 B ((k1.pres A).trans pr)⟩
  | _ => exact px.elim
def sClr (i : Nat) : TDS := fun P env => ob (owAt env i) fun _ => P.nx (env.set i (.ow []))
def sRev (i : Nat) : TDS := fun P env => ob (owAt env i) fun xs => P.nx (env.set i (.ow xs.reverse))
def sPut (i : Nat) (de dk : TDE) : TDS := fun P env => de env fun x => ob (owAt env i) fun xs => dk env fun k => match k with | .int n => ob (ixN xs.length n) fun m => P.nx (env.set i (.ow (xs.set m x))) | _ => False
theorem l_put : ∀ E σ H, lS F (sPut i da db) E σ H → tAsg (lC F da) (gSub (tVar i) (lC F db) rSetL) E σ H := fun E σ H ⟨env, L, P, A, pp, hn, _⟩ =>
  ⟨env, L, _, A, pp, fun x v H1 px k1 o1 d1 => by
    obtain ⟨xs, h, pp⟩ := ob_elim px
    have A1 := A.step k1 o1
    obtain ⟨t, vs, hs, ha, hv, hd⟩ := ow_get A1 h
    refine ⟨_, hs, env, L, _, A1, pp, fun y w H2 py k2 o2 d2 => ?_⟩
    cases y with
    | int n =>
      cases d2
      obtain ⟨m, hm, pn⟩ := ob_elim py
      have A2 := A1.step k2 o2
      obtain ⟨a2, vs2, hs2, ha2, hv2, hd2⟩ := ow_get A2 h
      rw [hs] at hs2
      cases hs2
      obtain ⟨B, pr⟩ := ow_put A2 h hs ha2 (hd2.set m (A1.kd k2 d1))
      exact ⟨t, vs2, n, m, rfl, rfl, hv2, by rw [hd2.len]; exact hm, hn _ _ _ _ pn B (((k1.trans k2).pres A).trans pr)⟩
    | _ => exact py.elim⟩
theorem kd_len {κ : Type} {kvs : List (κ × V)} {kds : List (κ × D)} (h : kvs.map (·.1) = kds.map (·.1)) : kvs.length = kds.length := by simpa using congrArg List.length h
def frz (e : En) : Option En := (owD e).map En.fz
def sFrz (i : Nat) (s : TDS) : TDS := fun P env => ob (env[i]?.bind frz) fun e => s P (env.set i e)
end
end DL
namespace DL
open PySem PySem.Spec PyProof.Rows L2 RK
structure Stn (H H' : Hp) : Prop where
  f : ∀ a o, H a = some o → H' a = some o
  n : NoT H H'
theorem Stn.refl (H : Hp) : Stn H H := ⟨fun _ _ z => z, fun _ _ z => ⟨_, z⟩⟩
theorem Stn.new {H : Hp} {p : Addr} {o : HO} (h : H p = none) (n : Ntb o) : Stn H (upd H p o) := ⟨fun a u q => by rw [upd_ne (ne_of_none q h)]; exact q, noT_upd n⟩
instance {H H' : Hp} : CoeFun (Stn H H') fun _ => ∀ a o, H a = some o → H' a = some o := ⟨Stn.f⟩
def ItOk (F : Fx) (Rel : (Addr → Prop) → Hp → Prop) (J : It) (xs : List D) : Prop := ∀ N' H', Rel N' H' → (∀ a, N' a → ∃ o, H' a = some o) → ∀ i : Nat, (xs.length = i → J.stop i H') ∧
  ∀ x, xs[i]? = some x → J.go i H' ∧ ∀ v H2, J.yld i H' v H2 → Stn H' H2 ∧ Dd F.K N' F.W H2 v x
def relP (F : Fx) (L : List Addr) (H : Hp) : (Addr → Prop) → Hp → Prop := fun N' H' => ∀ a o, ¬ F.N L a → H a = some o → ¬ N' a ∧ H' a = some o
def relK (F : Fx) (L : List Addr) (H : Hp) : (Addr → Prop) → Hp → Prop := fun N' H' => ∀ a o, ¬ F.W.own a → H a = some o → (¬ F.N L a → ¬ N' a) ∧ H' a = some o
abbrev TDI := De → (List D → Prop) → Prop
def lI (F : Fx) (d : TDI) : TI := fun σ H R => ∃ env L P, Abs F env σ L H ∧ d env P ∧ ∀ xs J H', P xs → KeepW F.W H H' → F.W.ok H' → ItOk F (relP F L H') J xs → R J H'
def lIb (F : Fx) (d : TDI) : TI := fun σ H R => ∃ env L P, Abs F env σ L H ∧ d env P ∧ ∀ xs J H', P xs → KeepW F.W H H' → F.W.ok H' → ItOk F (relK F L H') J xs → R J H'
section
variable {X : Cx} {F : Fx} {e a b c tg iter : Expr} {es : List Expr} {d da db dc : TDE} {ds : TDA} {pos p : Pos} {i j l : Nat}
theorem it_list {Rel : (Addr → Prop) → Hp → Prop} {t : Addr} {vs : List V} {xs : List D} (h : ∀ N' H', Rel N' H' → H' t = some (.lst vs) ∧ DdAll F.K N' F.W H' vs xs) : ItOk F Rel (Itl F.K t) xs := fun N' H' r _ i => by
  obtain ⟨h1, h2⟩ := h N' H' r
  refine ⟨fun hi => ⟨vs, SqL.of h1, by rw [h2.len]; exact Nat.le_of_eq hi⟩, fun x hx => ?_⟩
  obtain ⟨v, hv, dv⟩ := h2.get hx
  refine ⟨⟨vs, v, SqL.of h1, hv⟩, fun w H2 hy => ?_⟩
  obtain ⟨rfl, hy⟩ := hy
  have := hy vs (SqL.of h1)
  rw [hv] at this
  cases this
  exact ⟨.refl _, dv⟩
theorem it_tup {Rel : (Addr → Prop) → Hp → Prop} {t : Addr} {vs : List V} {xs : List D} (h : ∀ N' H', Rel N' H' → SqT F.K H' t vs ∧ DdAll F.K N' F.W H' vs xs) : ItOk F Rel (Itt F.K t) xs := fun N' H' r _ i => by
  obtain ⟨h1, h2⟩ := h N' H' r
  refine ⟨fun hi => ⟨vs, h1, by rw [h2.len]; exact Nat.le_of_eq hi⟩, fun x hx => ?_⟩
  obtain ⟨v, hv, dv⟩ := h2.get hx
  refine ⟨⟨vs, v, h1, hv⟩, fun w H2 hy => ?_⟩
  obtain ⟨rfl, hy⟩ := hy
  have := hy vs h1
  rw [hv] at this
  cases this
  exact ⟨.refl _, dv⟩
def rngD (lo : Int) (n : Nat) : List D := (List.range n).map fun k => .int (lo + (k : Nat))
theorem it_rng {Rel : (Addr → Prop) → Hp → Prop} {lo : Int} {n : Nat} : ItOk F Rel (Itr lo n) (rngD lo n) := fun N' H' r _ i => by
  refine ⟨fun hi => (show n ≤ i by have := Nat.le_of_eq hi; simpa [rngD] using this), fun x hx => ?_⟩
  have hi : i < n := by
    have := (List.getElem?_eq_some_iff.mp hx).1
    simpa [rngD] using this
  have e : x = .int (lo + (i : Nat)) := by
    unfold rngD at hx
    rw [List.getElem?_map, List.getElem?_range hi] at hx
    exact (Option.some.inj hx).symm
  subst e
  refine ⟨hi, fun w H2 hy => ?_⟩
  obtain ⟨rfl, rfl⟩ := hy
  exact ⟨.refl _, .int _⟩
theorem PI.mono {w w' : TI} (h : PI X tg iter w) (m : ∀ σ H R, w' σ H R → w σ H R) : PI X tg iter w' := ⟨fun pins s σ H R I q => h.run pins s σ H R I (m σ H R q)⟩
theorem PI.or {w w' : TI} (h : PI X tg iter w) (h' : PI X tg iter w') : PI X tg iter (fun σ H R => w σ H R ∨ w' σ H R) := ⟨fun pins s σ H R I q => by
  rcases q with q | q
  · exact h.run pins s σ H R I q
  · exact h'.run pins s σ H R I q⟩
def lstD : D → Option (List D)
  | .lst xs => some xs
  | _ => none
def tupD : D → Option (List D)
  | .tup xs => some xs
  | .ktp xs => some xs
  | _ => none
def sgnD : D → Option (List D)
  | .str z => some (z.cps.toList.map fun c => .str ⟨#[c]⟩)
  | _ => none
def iSeq (d : TDE) : TDI := fun env P => (d env fun x => ob (lstD x) P) ∨ ((d env fun x => ob (tupD x) P) ∨ (d env fun x => ob (sgnD x) P))
theorem it_str {Rel : (Addr → Prop) → Hp → Prop} {z : Str} : ItOk F Rel (Its z) (z.cps.toList.map fun c => .str ⟨#[c]⟩) := fun N' H' r _ i => by
  refine ⟨fun hi => (show z.cps.size ≤ i by have := Nat.le_of_eq hi; simpa using this), fun x hx => ?_⟩
  rw [List.getElem?_map] at hx
  obtain ⟨c, hc, rfl⟩ := Option.map_eq_some_iff.mp hx
  have hi : i < z.cps.size := by simpa using (List.getElem?_eq_some_iff.mp hc).1
  have hc2 : z.cps[i]? = some c := by rw [← Array.getElem?_toList]; exact hc
  refine ⟨hi, fun w H2 hy => ?_⟩
  obtain ⟨rfl, c', h1, rfl⟩ := hy
  rw [hc2] at h1
  cases h1
  exact ⟨.refl _, .str _⟩
theorem lstD_e {x : D} {xs : List D} (h : lstD x = some xs) : x = .lst xs := by cases x <;> cases h; rfl
theorem seqT_keep {N N' : Addr → Prop} {H H' : Hp} {v : V} {x : D} {xs : List D} (e : tupD x = some xs) (h : Dd F.K N F.W H v x) : ∃ t vs, v = .ref t ∧ SqT F.K H t vs ∧ ∀ N' H', (∀ a o, ¬ N a → H a = some o → ¬ N' a ∧ H' a = some o) → SqT F.K H' t vs ∧ DdAll F.K N' F.W H' vs xs := by
  cases x <;> cases e
  · obtain ⟨t, vs, rfl, h1, h2, h3⟩ := dd_tupE h
    exact ⟨t, vs, rfl, SqT.of h1, fun N' H' r => ⟨SqT.of (r t _ h2 h1).2, h3.pres r⟩⟩
  · cases h with | ktp h1 h2 h3 h4 h5 h6 => exact ⟨_, _, rfl, .inr ⟨_, _, _, h1, h2, h3, h4, h5⟩, fun N' H' r => ⟨.inr ⟨_, _, _, h1, h2, h3, h4, h5⟩, h6.pres r⟩⟩
theorem di_seq (he : PE X e (lC F d)) (hK : F.K = X.K := by rfl) : PI X tg e (lI F (iSeq d)) := PI.mono (PI.or (pi_list he) (PI.or (pi_tup he) (pi_str he))) fun σ H R ⟨env, L, P, A, pp, q⟩ => by
  rw [← hK]
  rcases pp with pp | pp | pp
  · refine .inl ⟨env, L, _, A, pp, fun x v H1 px k1 o1 d1 => ?_⟩
    obtain ⟨xs, e, px⟩ := ob_elim px
    have := lstD_e e
    subst this
    obtain ⟨t, vs, rfl, h1, h2, h3⟩ := dd_lstE d1
    exact ⟨t, rfl, ⟨vs, SqL.of h1⟩, q xs _ H1 px k1 o1 (it_list fun N' H' r => ⟨(r t _ h2 h1).2, h3.pres r⟩)⟩
  · refine .inr (.inl ⟨env, L, _, A, pp, fun x v H1 px k1 o1 d1 => ?_⟩)
    obtain ⟨xs, e, px⟩ := ob_elim px
    obtain ⟨t, vs, rfl, h1, h2⟩ := seqT_keep (N' := fun _ => False) (H' := H1) e d1
    exact ⟨t, rfl, ⟨vs, h1⟩, q xs _ H1 px k1 o1 (it_tup fun N' H' r => h2 N' H' r)⟩
  · refine .inr (.inr ⟨env, L, _, A, pp, fun x v H1 px k1 o1 d1 => ?_⟩)
    obtain ⟨xs, e, px⟩ := ob_elim px
    cases x <;> cases e
    have := dd_strE d1
    subst this
    exact ⟨_, rfl, q _ _ H1 px k1 o1 it_str⟩
theorem relK_p {L : List Addr} {H : Hp} {N' : Addr → Prop} {H' : Hp} {env : De} {σ : L2.St} (A : Abs F env σ L H) (r : relK F L H N' H') : ∀ a o, ¬ F.N L a → H a = some o → ¬ N' a ∧ H' a = some o := fun a o n h => ⟨(r a o (nw_of A n) h).1 n, (r a o (nw_of A n) h).2⟩
theorem bw_lstO {env : De} {σ : L2.St} {L : List Addr} {H : Hp} (A : Abs F env σ L H) {v : V} {xs : List D} (h : Bw F L H v (.lst xs)) : ∃ t vs, v = .ref t ∧ H t = some (.lst vs) ∧ ¬ F.W.own t ∧ DdAll F.K (F.N L) F.W H vs xs := by
  rcases h with h | ⟨e, h1, h2, h3⟩
  · obtain ⟨t, vs, rfl, h1, h2, h3⟩ := dd_lstE h
    exact ⟨t, vs, rfl, h1, nw_of A h2, h3⟩
  · cases e with
    | ow es =>
      cases h3
      cases v with
      | ref a =>
        obtain ⟨g1, vs, g2, g3⟩ := h2
        exact ⟨a, vs, rfl, g2, fun z => A.out g1 (A.wn a z), g3⟩
      | _ => exact h2.elim
    | no => cases h1
    | fz _ => cases h1
    | od _ => cases h3
    | ot _ => cases h3
theorem bw_tupC {L : List Addr} {H : Hp} {v : V} {x : D} {xs : List D} (e : tupD x = some xs) (h : Bw F L H v x) : Dd F.K (F.N L) F.W H v x := by
  rcases h with h | ⟨en, h1, h2, h3⟩
  · exact h
  · cases en with
    | no => cases h1
    | fz _ => cases h1
    | ow _ => subst h3; cases e
    | od _ => subst h3; cases e
    | ot _ => subst h3; cases e
theorem db_seq (he : PE X e (lB F d)) (hK : F.K = X.K := by rfl) : PI X tg e (lIb F (iSeq d)) := PI.mono (PI.or (pi_list he) (PI.or (pi_tup he) (pi_str he))) fun σ H R ⟨env, L, P, A, pp, q⟩ => by
  rw [← hK]
  rcases pp with pp | pp | pp
  · refine .inl ⟨env, L, _, A, pp, fun x v H1 px k1 o1 d1 => ?_⟩
    obtain ⟨xs, e, px⟩ := ob_elim px
    have := lstD_e e
    subst this
    obtain ⟨t, vs, rfl, h1, h2, h3⟩ := bw_lstO (A.step k1 o1) d1
    exact ⟨t, rfl, ⟨vs, SqL.of h1⟩, q xs _ H1 px k1 o1 (it_list fun N' H' r => ⟨(r t _ h2 h1).2, h3.pres (relK_p (A.step k1 o1) r)⟩)⟩
  · refine .inr (.inl ⟨env, L, _, A, pp, fun x v H1 px k1 o1 d1 => ?_⟩)
    obtain ⟨xs, e, px⟩ := ob_elim px
    obtain ⟨t, vs, rfl, h1, h2⟩ := seqT_keep (N' := fun _ => False) (H' := H1) e (bw_tupC e d1)
    exact ⟨t, rfl, ⟨vs, h1⟩, q xs _ H1 px k1 o1 (it_tup fun N' H' r => h2 N' H' (relK_p (A.step k1 o1) r))⟩
  · refine .inr (.inr ⟨env, L, _, A, pp, fun x v H1 px k1 o1 d1 => ?_⟩)
    obtain ⟨xs, e, px⟩ := ob_elim px
    cases x <;> cases e
    have := bw_str d1
    subst this
    exact ⟨_, rfl, q _ _ H1 px k1 o1 it_str⟩
def iRng (ds : TDA) : TDI := fun env P => ds env fun xs => match xs with
  | [.int n] => -(2 ^ 62) ≤ n ∧ n < 2 ^ 62 ∧ P (rngD 0 n.toNat)
  | _ => False
def iRngB (ds : TDA) : TDI := fun env P => ds env fun xs => match xs with
  | [.int m, .int n] => (-(2 ^ 62) ≤ m ∧ m < 2 ^ 62 ∧ -(2 ^ 62) ≤ n ∧ n < 2 ^ 62) ∧ P (rngD m (n - m).toNat)
  | _ => False
theorem ints1 {K : PySem.W.Frag} {N : Addr → Prop} {W : Wd} {H : Hp} {vs : List V} {n : Int} (h : DdAll K N W H vs [.int n]) : vs = [.int n] := by
  cases h with | cons h t => cases t; rw [dd_intE h]
theorem l_rng {q : TI → Prop} : ∀ σ H R, (lI F (iRng ds) σ H R ∨ lIb F (iRng ds) σ H R) → iRng1 (lA F ds) σ H R := fun σ H R h => by
  have key : ∀ (Rel : List Addr → Hp → (Addr → Prop) → Hp → Prop), (∃ env L P, Abs F env σ L H ∧ iRng ds env P ∧ ∀ xs J H', P xs → KeepW F.W H H' → F.W.ok H' → ItOk F (Rel L H') J xs → R J H') → iRng1 (lA F ds) σ H R := fun Rel ⟨env, L, P, A, pp, q⟩ =>
    ⟨env, L, _, A, pp, fun xs vs H1 px k1 o1 d1 => by
      match xs, px, d1 with
      | [.int n], px, d1 => exact ⟨n, ints1 d1, px.1, px.2.1, q _ _ H1 px.2.2 k1 o1 it_rng⟩⟩
  rcases h with h | h
  · exact key (relP F) h
  · exact key (relK F) h
theorem di_rng (hg : Gl X "range") (hm : X.mg "range" = none) (ha : PA X [a] (lA F ds)) (hs : starEach [a] X.env = [(false, eval a X.env)] := by rfl) : PI X tg (.Call (.Name "range" p) [a] [] pos) (lI F (iRng ds)) := PI.mono (pi_range1 hg hm ha hs) fun σ H R h => l_rng (q := fun _ => True) σ H R (.inl h)
theorem db_rng (hg : Gl X "range") (hm : X.mg "range" = none) (ha : PA X [a] (lA F ds)) (hs : starEach [a] X.env = [(false, eval a X.env)] := by rfl) : PI X tg (.Call (.Name "range" p) [a] [] pos) (lIb F (iRng ds)) := PI.mono (pi_range1 hg hm ha hs) fun σ H R h => l_rng (q := fun _ => True) σ H R (.inr h)
def sLoop (g : TDG) (body : TDS) (P : DEnds) : List D → De → Prop
  | [], env => P.nx env
  | x :: xs, env => g x env fun env' => body { nx := sLoop g body P xs, rt := P.rt, bk := P.nx, ct := sLoop g body P xs } env'
def sFor (it : TDI) (g : TDG) (body : TDS) : TDS := fun P env => it env fun xs => sLoop g body P xs env
theorem same_keep {W : Wd} {H H' : Hp} (h : Stn H H') : KeepW W H H' := fun a o _ q => h a o q
theorem same_ok {W : Wd} {H H' : Hp} (k : W.ok H) (h : Stn H H') : W.ok H' := Wd.st k (fun a o q _ => h a o q) h.n
theorem l_for {S : List Nat} {it : TDI} {g : TDG} {body : TDS} : ∀ E σ H, lS F (sFor it g body) E σ H → tFor (lI F it) (lG F S g) (lS F body) E σ H := fun E σ H ⟨env, L, P, A, pp, hn, hr, hb, hc⟩ =>
  ⟨env, L, _, A, pp, fun xs J H1 px k1 o1 ok => by
    have pr0 : Pres F L H L H1 := k1.pres A
    refine ⟨fun i m σ' H' => ∃ env' L', Abs F env' σ' L' H' ∧ Pres F L H1 L' H' ∧ sLoop g body P (xs.drop i) env' ∧ i ≤ xs.length ∧ m = xs.length - i, ⟨_, env, L, A.step k1 o1, .refl _ _ _, px, Nat.zero_le _, rfl⟩, ?_⟩
    rintro i m σ' H' ⟨env', L', A', pr, lp, hi, rfl⟩
    obtain ⟨st, go⟩ := ok (F.N L') H' (fun a o n h => pr a o n h) (fun a h => A'.alN h) i
    by_cases hlt : i < xs.length
    · obtain ⟨g1, g2⟩ := go xs[i] (List.getElem?_eq_getElem hlt)
      refine .inr ⟨g1, fun σ2 H2 => ∃ env2 L2, Abs F env2 σ2 L2 H2 ∧ Pres F L H1 L2 H2 ∧ sLoop g body P (xs.drop (i + 1)) env2, fun σ2 H2 ⟨env2, L2, a1, a2, a3⟩ => ⟨xs.length - (i + 1), by omega, env2, L2, a1, a2, a3, hlt, rfl⟩, fun v H2 hy => ?_⟩
      obtain ⟨sm, dd⟩ := g2 v H2 hy
      rw [List.drop_eq_getElem_cons hlt] at lp
      have A2 := A'.step (same_keep sm) (same_ok A'.ok sm)
      have pr2 : Pres F L H1 L' H2 := pr.trans fun a o n h => ⟨n, sm a o h⟩
      exact ⟨env', L', _, _, A2, dd, lp, fun env3 σ3 p3 A3 _ _ => ⟨env3, L', _, A3, p3, fun env4 σ4 L4 H4 p4 A4 pr4 => ⟨env4, L4, A4, pr2.trans pr4, p4⟩, hr, fun env4 σ4 L4 H4 p4 A4 pr4 => hn env4 σ4 L4 H4 p4 A4 ((pr0.trans pr2).trans pr4), fun env4 σ4 L4 H4 p4 A4 pr4 => ⟨env4, L4, A4, pr2.trans pr4, p4⟩⟩⟩
    · have e : xs.drop i = [] := List.drop_eq_nil_of_le (by omega)
      rw [e] at lp
      exact .inl ⟨st (by omega), hn env' σ' L' H' lp A' (pr0.trans pr)⟩⟩
theorem ds_for {S : List Nat} {it : TDI} {g : TDG} {sts : List Stmt} {body : TDS} (hp : PassesOwn (model X.prog X.w) X.A X.env X.xe) (hc : X.calm = true) (hi : PI X tg iter (lI F it)) (hg : PG X tg (lG F S g)) (hb : PSs X sts (lS F body)) (hs : ∀ x, foldedSetIterable iter X.env x = pure x := by intro _; rfl) :
    PS X (.For tg iter sts [] pos) (lS F (sFor it g body)) := PS.mono (ps_for hp hc hi hg hb hs) l_for
def sWhile (c : TDT) (body : TDS) : TDS := fun P env => ∃ I : Nat → De → Prop, (∃ m, I m env) ∧ ∀ m env, I m env → c env fun b => if b = true then body { nx := fun e => ∃ m', m' < m ∧ I m' e, rt := P.rt, bk := P.nx, ct := fun e => ∃ m', m' < m ∧ I m' e } env else P.nx env
theorem l_while {tc : TDT} {body : TDS} : ∀ E σ H, lS F (sWhile tc body) E σ H → tWhile (lT F tc) (lS F body) E σ H := fun E σ H ⟨env, L, P, A, ⟨I, ⟨m0, i0⟩, st⟩, hn, hr, hb, hc⟩ => by
  refine ⟨fun m σ' H' => ∃ env' L', Abs F env' σ' L' H' ∧ Pres F L H L' H' ∧ I m env', ⟨m0, env, L, A, .refl _ _ _, i0⟩, ?_⟩
  rintro m σ' H' ⟨env', L', A', pr, im⟩
  refine ⟨env', L', _, A', st m env' im, fun x H1 px k1 o1 => ?_⟩
  have pr1 : Pres F L H L' H1 := pr.trans (k1.pres A')
  cases x with
  | true => exact iteT ⟨fun σ2 H2 => ∃ env2 L2, Abs F env2 σ2 L2 H2 ∧ Pres F L H L2 H2 ∧ ∃ m', m' < m ∧ I m' env2, fun σ2 H2 ⟨env2, L2, a1, a2, m', a3, a4⟩ => ⟨m', a3, env2, L2, a1, a2, a4⟩, env', L', _, A'.step k1 o1, px, fun env2 σ2 L2 H2 p2 A2 pr2 => ⟨env2, L2, A2, pr1.trans pr2, p2⟩, hr, fun env2 σ2 L2 H2 p2 A2 pr2 => hn env2 σ2 L2 H2 p2 A2 (pr1.trans pr2), fun env2 σ2 L2 H2 p2 A2 pr2 => ⟨env2, L2, A2, pr1.trans pr2, p2⟩⟩
  | false => exact iteF (hn env' σ' L' H1 px (A'.step k1 o1) pr1)
theorem ds_while {tc : TDT} {sts : List Stmt} {body : TDS} (hp : PassesOwn (model X.prog X.w) X.A X.env X.xe) (hc : PT X c (lT F tc)) (hb : PSs X sts (lS F body)) : PS X (.While c sts [] pos) (lS F (sWhile tc body)) := PS.mono (ps_while hp hc hb) l_while
end
end DL
namespace DL
open PySem PySem.Spec PyProof.Rows L2 RK
def wipeE (env : De) : List Nat → De
  | [] => env
  | v :: vs => (wipeE env vs).set v .no
section
variable {F : Fx} {env : De} {σ : L2.St} {L : List Addr} {H H' : Hp}
theorem Abs.setN (A : Abs F env σ L H) (i : Nat) : Abs F (env.set i .no) (σ.set i none) L H := by
  refine ⟨A.ok, A.al, A.wn, A.kp, A.fr, by rw [List.length_set, List.length_set, A.ls], fun j l a ej el h1 h2 o1 o2 s1 s2 => ?_, fun j e y h1 h2 => ?_⟩
  · by_cases hj : i = j
    · subst hj
      by_cases hi : i < env.length
      · rw [List.getElem?_set_self hi] at h1
        cases h1
        cases o1
      · rw [List.getElem?_eq_none (by rw [List.length_set]; omega)] at h1
        cases h1
    · by_cases hl : i = l
      · subst hl
        by_cases hi : i < env.length
        · rw [List.getElem?_set_self hi] at h2
          cases h2
          cases o2
        · rw [List.getElem?_eq_none (by rw [List.length_set]; omega)] at h2
          cases h2
      · rw [List.getElem?_set_ne hj] at h1 s1
        rw [List.getElem?_set_ne hl] at h2 s2
        exact A.sep j l a ej el h1 h2 o1 o2 s1 s2
  · by_cases hj : i = j
    · subst hj
      by_cases hi : i < env.length
      · rw [List.getElem?_set_self hi] at h1
        cases h1
        trivial
      · rw [List.getElem?_eq_none (by rw [List.length_set]; omega)] at h1
        cases h1
    · rw [List.getElem?_set_ne hj] at h1 h2
      exact A.en j e y h1 h2
theorem Abs.wipe (A : Abs F env σ L H) : ∀ vs : List Nat, Abs F (wipeE env vs) (L2.wipe σ vs) L H
  | [] => A
  | v :: vs => (A.wipe vs).setN v
theorem Abs.poke (A : Abs F env σ L H) {a : Addr} {o' : HO} (ha : a ∈ L) (lo : Lone env σ a) (po : Plo o' := by exact True.intro) : Abs F env σ L (upd H a o') := by
  have na : ¬ F.N0 a := A.out ha
  have nw : ¬ F.W.own a := fun z => na (A.wn a z)
  refine ⟨?_, A.al, A.wn, fun x u q h => ?_, fun b hb => ?_, A.ls, A.sep, fun j e2 y h1 h2 => ?_⟩
  · exact Wd.st A.ok (n := noT_upd po.ntb) fun b u h q => by
      have ne : b ≠ a := fun z => by
        rcases q with q | q
        · exact nw (by rw [← z]; exact q)
        · obtain ⟨_, o, e, pl⟩ := A.fr a ha
          rw [z, e] at h
          exact q (Option.some.inj h ▸ pl)
      rw [upd_ne ne]
      exact h
  · have hx := A.kp x u q h
    have ne : x ≠ a := fun z => by
      rw [z, (A.fr a ha).1] at h
      cases h
    rw [upd_ne ne]
    exact hx
  · refine ⟨(A.fr b hb).1, ?_⟩
    by_cases e : b = a
    · subst e
      exact ⟨_, upd_same, po⟩
    · rw [upd_ne e]
      exact (A.fr b hb).2
  · refine EnOk.keep A (fun x u q h => ?_) (fun _ z => z) (fun b hb ob hbL => ⟨hbL, fun u hu => ?_⟩) (A.en j e2 y h1 h2)
    · have ne : x ≠ a := fun z => q (.inr (by rw [z]; exact ha))
      rw [upd_ne ne]
      exact h
    · have ne : b ≠ a := fun z => lo j e2 h1 ob (by rw [h2, hb, z])
      rw [upd_ne ne]
      exact hu
end
def dComp (g : TDG) (tt : TDT) (te : TDE) (P : D → Prop) (env : De) : List D → List D → Prop
  | [], acc => P (.lst acc)
  | x :: xs, acc => g x env fun env' => tt env' fun b => if b = true then te env' fun y => acc.length < sizeLine ∧ dComp g tt te P env xs (acc ++ [y]) else dComp g tt te P env xs acc
def dLc (it : TDI) (g : TDG) (tt : TDT) (te : TDE) (vs : List Nat) : TDE := fun env P => it env fun xs => dComp g tt te P (wipeE env vs) xs []
def tYesD : TDT := fun _ P => P true
section
variable {X : Cx} {F : Fx} {e a b c tg iter : Expr} {es : List Expr} {d da db dc : TDE} {ds : TDA} {pos p : Pos} {i j l : Nat}
theorem ts_nil : PTs X [] (lT F tYesD) := ⟨fun pins s σ H Q I h => pts_nil.run pins s σ H Q I (let ⟨_, _, _, A, pp, q⟩ := h; q true H pp (.refl _ _) A.ok)⟩
theorem ts_one {t : TDT} (h : PT X c (lT F t)) : PTs X [c] (lT F t) := pts_one h
theorem l_lc {S vs : List Nat} {it : TDI} {g : TDG} {tt : TDT} {te : TDE} (hS : ∀ i ∈ S, i ∈ vs) : ∀ σ H Q, lN F (dLc it g tt te vs) σ H Q → tLc (lIb F it) (lG F S g) (lT F tt) (lC F te) vs σ H Q := fun σ H Q ⟨env, L, P, A, pp, q⟩ =>
  ⟨env, L, _, A, pp, fun xs J H1 px k1 o1 ok D nD => by
    have A1 := A.step k1 o1
    have lo : Lone (wipeE env vs) (wipe σ vs) D := (A1.wipe vs).lone nD
    have B0 : Abs F (wipeE env vs) (wipe σ vs) (D :: L) (upd H1 D (.lst [])) := (A1.wipe vs).hold (x := .lst []) (.new nD) (ok_new o1 nD) nD ⟨[], upd_same, .nil⟩
    refine ⟨fun i m H' => ∃ acc us, Abs F (wipeE env vs) (wipe σ vs) (D :: L) H' ∧ (∀ a o, ¬ F.W.own a → H1 a = some o → H' a = some o) ∧ H' D = some (.lst us) ∧ DdAll F.K (F.N (D :: L)) F.W H' us acc ∧ dComp g tt te P (wipeE env vs) (xs.drop i) acc ∧ i ≤ xs.length ∧ m = xs.length - i,
      ⟨_, [], [], B0, fun a o _ h => by rw [upd_ne (ne_of_none h nD)]; exact h, upd_same, .nil, px, Nat.zero_le _, rfl⟩, ?_⟩
    rintro i m H' ⟨acc, us, B, kk, hD, hu, lp, hi, rfl⟩
    obtain ⟨st, go⟩ := ok (F.N (D :: L)) H' (fun a o n h => ⟨fun nn z => by
      rcases z with z | z
      · exact nn (.inl z)
      · rcases List.mem_cons.mp z with z | z
        · rw [z, nD] at h
          cases h
        · exact nn (.inr z), kk a o n h⟩) (fun a h => B.alN h) i
    by_cases hlt : i < xs.length
    · obtain ⟨g1, g2⟩ := go xs[i] (List.getElem?_eq_getElem hlt)
      rw [List.drop_eq_getElem_cons hlt] at lp
      refine .inr ⟨g1, fun H2 => ∃ acc us, Abs F (wipeE env vs) (wipe σ vs) (D :: L) H2 ∧ (∀ a o, ¬ F.W.own a → H1 a = some o → H2 a = some o) ∧ H2 D = some (.lst us) ∧ DdAll F.K (F.N (D :: L)) F.W H2 us acc ∧ dComp g tt te P (wipeE env vs) (xs.drop (i + 1)) acc,
        fun H2 ⟨acc, us, a1, a2, a3, a4, a5⟩ => ⟨xs.length - (i + 1), by omega, acc, us, a1, a2, a3, a4, a5, hlt, rfl⟩, fun v H2 hy => ?_⟩
      obtain ⟨sm, dd⟩ := g2 v H2 hy
      have B2 := B.step (same_keep sm) (same_ok B.ok sm)
      refine ⟨_, _, _, _, B2, dd, lp, fun env3 σ3 p3 B3 w3 _ => ⟨?_, env3, _, _, B3, p3, fun bb H3 p4 k4 o4 => ?_⟩⟩
      · rw [w3 vs hS]
        have : ∀ ws : List Nat, wipe (wipe σ ws) ws = wipe σ ws := by
          intro ws
          apply List.ext_getElem?
          intro n
          by_cases hn : n < (wipe σ ws).length
          · cases hx : (wipe (wipe σ ws) ws)[n]? with
            | none =>
              rw [List.getElem?_eq_none_iff, wipe_length] at hx
              omega
            | some y =>
              cases hz : (wipe σ ws)[n]? with
              | none =>
                rw [List.getElem?_eq_none_iff] at hz
                omega
              | some z =>
                cases y with
                | some y =>
                  rw [(wipe_some hx).1] at hz
                  rw [Option.some.inj hz]
                | none =>
                  cases z with
                  | none => rfl
                  | some z =>
                    exfalso
                    have nm := (wipe_some hz).2
                    have keep : ∀ (τ : L2.St) (us : List Nat), n ∉ us → (wipe τ us)[n]? = τ[n]? := by
                      intro τ us
                      induction us with
                      | nil => intro _; rfl
                      | cons u us ih =>
                        intro hu
                        unfold wipe
                        rw [List.getElem?_set_ne (fun z => hu (by rw [z]; exact List.mem_cons_self)), ih (fun z => hu (List.mem_cons_of_mem _ z))]
                    rw [keep _ ws nm, hz] at hx
                    cases hx
          · rw [List.getElem?_eq_none (by rw [wipe_length]; omega), List.getElem?_eq_none (by omega)]
        exact this vs
      · have B4 := B3.step k4 o4
        have W4 : Abs F (wipeE env vs) (wipe σ vs) (D :: L) H3 := B2.step k4 o4
        have nD0 : ¬ F.W.own D := fun z => B.out List.mem_cons_self (B.wn D z)
        cases bb with
        | true =>
          refine iteT ⟨env3, _, _, B4, p4, fun y v' H5 p5 k5 o5 d5 => ?_⟩
          have hD5 : H5 D = some (.lst us) := k5 D _ nD0 (k4 D _ nD0 (sm D _ hD))
          have hu5 : DdAll F.K (F.N (D :: L)) F.W H5 us acc := W4.kda k5 (B2.kda k4 (B.kda (same_keep sm) hu))
          have W5 := W4.step k5 o5
          refine ⟨us, hD5, by rw [hu5.len]; exact p5.1, acc ++ [y], us ++ [v'], W5.poke List.mem_cons_self lo, fun a o n h => ?_, upd_same, (hu5.app (.cons d5 .nil)).keep (fun x u q h => ?_) (fun _ z => z), p5.2⟩
          · rw [upd_ne (ne_of_none h nD)]
            exact k5 a o n (k4 a o n (sm a o (kk a o n h)))
          · have ne : x ≠ D := fun z => q (.inr (by rw [z]; exact List.mem_cons_self))
            rw [upd_ne ne]
            exact h
        | false => exact iteF ⟨acc, us, W4, fun a o n h => k4 a o n (sm a o (kk a o n h)), k4 D _ nD0 (sm D _ hD), B2.kda k4 (B.kda (same_keep sm) hu), p4⟩
    · have e : xs.drop i = [] := List.drop_eq_nil_of_le (by omega)
      rw [e] at lp
      refine .inl ⟨st (by omega), q _ D H' lp (k1.trans fun a o n h => kk a o n h) B.ok (free_of k1 o1 nD) ⟨us, hD, hu⟩⟩⟩
def dDcomp (g : TDG) (tt : TDT) (tk tv : TDE) (P : D → Prop) (env : De) : List D → List (Key × D) → Prop
  | [], acc => P (.dic acc)
  | x :: xs, acc => g x env fun env' => tt env' fun b => if b = true then tk env' fun k => tv env' fun y => ob (keyD k) fun k => acc.length < sizeLine ∧ dDcomp g tt tk tv P env xs (putD acc k y) else dDcomp g tt tk tv P env xs acc
def dDc (it : TDI) (g : TDG) (tt : TDT) (tk tv : TDE) (vs : List Nat) : TDE := fun env P => it env fun xs => dDcomp g tt tk tv P (wipeE env vs) xs []
theorem wipe_wipe (σ : L2.St) (ws : List Nat) : wipe (wipe σ ws) ws = wipe σ ws := by
  apply List.ext_getElem?
  intro n
  have keep : ∀ (τ : L2.St) (us : List Nat), n ∉ us → (wipe τ us)[n]? = τ[n]? := by
    intro τ us
    induction us with
    | nil => intro _; rfl
    | cons u us ih =>
      intro hu
      unfold wipe
      rw [List.getElem?_set_ne (fun z => hu (by rw [z]; exact List.mem_cons_self)), ih (fun z => hu (List.mem_cons_of_mem _ z))]
  by_cases hm : n ∈ ws
  · have no : ∀ τ : L2.St, ∀ y, (wipe τ ws)[n]? ≠ some (some y) := fun τ y h => (wipe_some h).2 hm
    by_cases hn : n < σ.length
    · have f : ∀ τ : L2.St, n < τ.length → (wipe τ ws)[n]? = some none := fun τ h => by
        cases hx : (wipe τ ws)[n]? with
        | none => rw [List.getElem?_eq_none_iff, wipe_length] at hx; omega
        | some y => cases y with
          | none => rfl
          | some y => exact (no τ y hx).elim
      rw [f _ hn, f _ (by rw [wipe_length]; exact hn)]
    · rw [List.getElem?_eq_none (by rw [wipe_length, wipe_length]; omega), List.getElem?_eq_none (by rw [wipe_length]; omega)]
  · rw [keep _ ws hm]
theorem l_dc {S vs : List Nat} {it : TDI} {g : TDG} {tt : TDT} {tk tv : TDE} (hS : ∀ i ∈ S, i ∈ vs) : ∀ σ H Q, lN F (dDc it g tt tk tv vs) σ H Q → tDc (lIb F it) (lG F S g) (lT F tt) (lC F tk) (lC F tv) vs σ H Q := fun σ H Q ⟨env, L, P, A, pp, q⟩ =>
  ⟨env, L, _, A, pp, fun xs J H1 px k1 o1 ok D nD => by
    have A1 := A.step k1 o1
    have lo : Lone (wipeE env vs) (wipe σ vs) D := (A1.wipe vs).lone nD
    have B0 : Abs F (wipeE env vs) (wipe σ vs) (D :: L) (upd H1 D (.dK [])) := (A1.wipe vs).hold (x := .dic []) (.new nD) (ok_new o1 nD) nD ⟨[], upd_same, rfl, .nil⟩
    refine ⟨fun i m H' => ∃ acc us, Abs F (wipeE env vs) (wipe σ vs) (D :: L) H' ∧ (∀ a o, ¬ F.W.own a → H1 a = some o → H' a = some o) ∧ H' D = some (.dK us) ∧ us.map (·.1) = acc.map (·.1) ∧ DdAll F.K (F.N (D :: L)) F.W H' (us.map (·.2)) (acc.map (·.2)) ∧ dDcomp g tt tk tv P (wipeE env vs) (xs.drop i) acc ∧ i ≤ xs.length ∧ m = xs.length - i,
      ⟨_, [], [], B0, fun a o _ h => by rw [upd_ne (ne_of_none h nD)]; exact h, upd_same, rfl, .nil, px, Nat.zero_le _, rfl⟩, ?_⟩
    rintro i m H' ⟨acc, us, B, kk, hD, hk, hu, lp, hi, rfl⟩
    obtain ⟨st, go⟩ := ok (F.N (D :: L)) H' (fun a o n h => ⟨fun nn z => by
      rcases z with z | z
      · exact nn (.inl z)
      · rcases List.mem_cons.mp z with z | z
        · rw [z, nD] at h
          cases h
        · exact nn (.inr z), kk a o n h⟩) (fun a h => B.alN h) i
    by_cases hlt : i < xs.length
    · obtain ⟨g1, g2⟩ := go xs[i] (List.getElem?_eq_getElem hlt)
      rw [List.drop_eq_getElem_cons hlt] at lp
      refine .inr ⟨g1, fun H2 => ∃ acc us, Abs F (wipeE env vs) (wipe σ vs) (D :: L) H2 ∧ (∀ a o, ¬ F.W.own a → H1 a = some o → H2 a = some o) ∧ H2 D = some (.dK us) ∧ us.map (·.1) = acc.map (·.1) ∧ DdAll F.K (F.N (D :: L)) F.W H2 (us.map (·.2)) (acc.map (·.2)) ∧ dDcomp g tt tk tv P (wipeE env vs) (xs.drop (i + 1)) acc,
        fun H2 ⟨acc, us, a1, a2, a3, a6, a4, a5⟩ => ⟨xs.length - (i + 1), by omega, acc, us, a1, a2, a3, a6, a4, a5, hlt, rfl⟩, fun v H2 hy => ?_⟩
      obtain ⟨sm, dd⟩ := g2 v H2 hy
      have B2 := B.step (same_keep sm) (same_ok B.ok sm)
      refine ⟨_, _, _, _, B2, dd, lp, fun env3 σ3 p3 B3 w3 _ => ⟨?_, env3, _, _, B3, p3, fun bb H3 p4 k4 o4 => ?_⟩⟩
      · rw [w3 vs hS]
        exact wipe_wipe σ vs
      · have B4 := B3.step k4 o4
        have W4 : Abs F (wipeE env vs) (wipe σ vs) (D :: L) H3 := B2.step k4 o4
        have nD0 : ¬ F.W.own D := fun z => B.out List.mem_cons_self (B.wn D z)
        cases bb with
        | true =>
          refine iteT ⟨env3, _, _, B4, p4, fun kx vk H4 p5 k5 o5 d5 => ⟨env3, _, _, B4.step k5 o5, p5, fun y v' H6 p6 k6 o6 d6 => ?_⟩⟩
          obtain ⟨k, ek, p7⟩ := ob_elim p6
          have hv := keyD_v (F := F) (L := D :: L) (.inl d5) ek
          have kt := k5.trans k6
          have hD5 : H6 D = some (.dK us) := kt D _ nD0 (k4 D _ nD0 (sm D _ hD))
          have hu5 : DdAll F.K (F.N (D :: L)) F.W H6 (us.map (·.2)) (acc.map (·.2)) := W4.kda kt (B2.kda k4 (B.kda (same_keep sm) hu))
          have W5 := W4.step kt o6
          obtain ⟨r1, r2⟩ := put_rel (k := k) hk hu5 d6
          refine ⟨us, k, hv, hD5, by rw [kd_len hk]; exact p7.1, putD acc k y, putK us k v', W5.poke List.mem_cons_self lo, fun a o n h => ?_, upd_same, r1, r2.keep (fun x u q h => ?_) (fun _ z => z), p7.2⟩
          · rw [upd_ne (ne_of_none h nD)]
            exact kt a o n (k4 a o n (sm a o (kk a o n h)))
          · have ne : x ≠ D := fun z => q (.inr (by rw [z]; exact List.mem_cons_self))
            rw [upd_ne ne]
            exact h
        | false => exact iteF ⟨acc, us, W4, fun a o n h => k4 a o n (sm a o (kk a o n h)), k4 D _ nD0 (sm D _ hD), hk, B2.kda k4 (B.kda (same_keep sm) hu), p4⟩
    · have e : xs.drop i = [] := List.drop_eq_nil_of_le (by omega)
      rw [e] at lp
      refine .inl ⟨st (by omega), q _ D H' lp (k1.trans fun a o n h => kk a o n h) B.ok (free_of k1 o1 nD) ⟨us, hD, hk, hu⟩⟩⟩
end
def startE (N : List Str) (ds : List D) : De := ds.map En.fz ++ List.replicate (N.length - ds.length) En.no
theorem abs_start {K : PySem.W.Frag} {W : Wd} {N0 : Addr → Prop} {H : Hp} {fr : Fr} {N : List Str} {vs : List V} {ds : List D} (al : ∀ a, N0 a → ∃ o, H a = some o) (wn : ∀ a, W.own a → N0 a) (ok : W.ok H) (dd : DdAll K N0 W H vs ds) :
    Abs ⟨K, W, N0, H, fr⟩ (startE N ds) (start N vs) [] H := by
  have hl := dd.len
  have noOw : ∀ (i : Nat) (e : En), (startE N ds)[i]? = some e → e.isOw = true → False := fun i e h ow => by
    have := List.mem_of_getElem? h
    unfold startE at this
    rcases List.mem_append.mp this with h | h
    · obtain ⟨d, _, rfl⟩ := List.mem_map.mp h
      cases ow
    · rw [(List.mem_replicate.mp h).2] at ow
      cases ow
  refine ⟨ok, al, wn, .refl _ _, fun a h => (by cases h), ?_, fun i j a ei ej h1 h2 o1 o2 s1 s2 => (noOw i ei h1 o1).elim, fun i e x h1 h2 => ?_⟩
  · unfold startE L2.start
    rw [List.length_append, List.length_append, List.length_map, List.length_map, List.length_replicate, List.length_replicate, hl]
  · unfold startE at h1
    unfold L2.start at h2
    by_cases hi : i < ds.length
    · rw [List.getElem?_append_left (by rw [List.length_map]; exact hi), List.getElem?_map, List.getElem?_eq_getElem hi] at h1
      rw [List.getElem?_append_left (by rw [List.length_map]; omega), List.getElem?_map, List.getElem?_eq_getElem (by omega)] at h2
      have e1 : e = .fz ds[i] := (Option.some.inj h1).symm
      have e2 : x = some (vs[i]'(by omega)) := (Option.some.inj h2).symm
      subst e1 e2
      obtain ⟨v, g1, g2⟩ := dd.get (List.getElem?_eq_getElem hi)
      rw [List.getElem?_eq_getElem (by omega)] at g1
      have e3 := Option.some.inj g1
      rw [e3]
      exact g2.keep (fun _ _ _ z => z) fun y hy => by
        rcases hy with hy | hy
        · exact hy
        · cases hy
    · rw [List.getElem?_append_right (by rw [List.length_map]; omega)] at h1
      rw [(List.mem_replicate.mp (List.mem_of_getElem? h1)).2]
      trivial
def fin (fr : Fr) (P : D → Prop) : DEnds := { nx := fun _ => fr = .b false ∧ P .non, rt := P }
theorem fn_d {K : PySem.W.Frag} {W : Wd} {N0 : Addr → Prop} {H : Hp} {fr : Fr} {N : List Str} {vs : List V} {ds : List D} {P : D → Prop} {Q : VK} {d : TDS} (al : ∀ a, N0 a → ∃ o, H a = some o) (wn : ∀ a, W.own a → N0 a) (ok : W.ok H) (dd : DdAll K N0 W H vs ds)
    (q : ∀ x v H', P x → KeepW W H H' → W.ok H' → Dd K N0 W H' v x → Nw K W N0 H fr H' v x → Q v H') (h : d (fin fr P) (startE N ds)) :
    lS ⟨K, W, N0, H, fr⟩ d { nx := fun _ H' => Q .non H', rt := Q } (start N vs) H := by
  have nv : ∀ {H' : Hp} {a : Addr} {x : D}, NewV ⟨K, W, N0, H, fr⟩ [] H' a x → NewV ⟨K, W, N0, H, .b true⟩ [] H' a x := fun {H' a x} h => by cases x <;> exact h
  refine ⟨_, [], _, abs_start al wn ok dd, h, fun env' σ' L' H' p A _ => ?_, fun x v H' p r => ?_, fun _ _ _ _ z => z.elim, fun _ _ _ _ z => z.elim⟩
  · exact q .non .non H' p.2 A.kp A.ok .non ⟨fun z => (by rw [p.1] at z; cases z), fun j z => by rw [p.1] at z; cases z⟩
  · exact q x v H' p r.kp r.ok r.dd ⟨fun z => (let ⟨a, h1, h2, h3⟩ := r.nw z; ⟨a, h1, h2, nv h3⟩), r.cj⟩
end DL
namespace DL
open PySem PySem.Spec PyProof.Rows L2 RK
section
variable {X : Cx} {F : Fx} {e a b c o : Expr} {es : List Expr} {d da db dc : TDE} {ds : TDA} {pos p : Pos} {i j l : Nat}
theorem l_setF_n {t : TE} (h : ∀ σ H Q, lN F d σ H Q → t σ H Q) : ∀ E σ H, lS F (sSet i d) E σ H → tAsg t (gName i) E σ H := fun E σ H ⟨env, L, P, A, pp, hn, _⟩ =>
  h σ H _ ⟨env, L, _, A, pp, fun x v H1 px k o n nv => hn _ _ L H1 px ((A.step k o).setF (nv.dd (A.new n)) i) (k.pres A)⟩
def sPar3 (i j l : Nat) (da db dc : TDE) : TDS := fun P env => da env fun x => db env fun y => dc env fun z => P.nx (((env.set i (.fz x)).set j (.fz y)).set l (.fz z))
theorem look_rel {K : PySem.W.Frag} {N : Addr → Prop} {W : Wd} {H : Hp} {f : Str} : ∀ {fs : List (Str × V)} {fds : List (Str × D)}, fs.map (·.1) = fds.map (·.1) → DdAll K N W H (fs.map (·.2)) (fds.map (·.2)) →
    (fs.lookup f = none ∧ fds.lookup f = none) ∨ ∃ v d, fs.lookup f = some v ∧ fds.lookup f = some d ∧ Dd K N W H v d
  | [], [], _, _ => .inl ⟨rfl, rfl⟩
  | [], _ :: _, e, _ => by cases e
  | _ :: _, [], e, _ => by cases e
  | (k1, v) :: fs, (k2, d) :: fds, e, .cons h a => by
    have e1 : k1 = k2 := (List.cons.inj e).1
    have e2 := (List.cons.inj e).2
    subst e1
    cases hk : f == k1 with
    | true => exact .inr ⟨v, d, by simp [List.lookup, hk], by simp [List.lookup, hk], h⟩
    | false =>
      rcases look_rel (f := f) e2 a with ⟨h1, h2⟩ | ⟨v', d', h1, h2, h3⟩
      · exact .inl ⟨by simpa [List.lookup, hk] using h1, by simpa [List.lookup, hk] using h2⟩
      · exact .inr ⟨v', d', by simpa [List.lookup, hk] using h1, by simpa [List.lookup, hk] using h2, h3⟩
theorem dd_objE {K : PySem.W.Frag} {N : Addr → Prop} {W : Wd} {H : Hp} {v : V} {C : Addr} {fds : List (Str × D)} (h : Dd K N W H v (.obj C fds)) : ∃ a dx fs, v = .ref a ∧ H a = some (.ins C dx fs) ∧ ¬ N a ∧ fs.map (·.1) = fds.map (·.1) ∧ DdAll K N W H (fs.map (·.2)) (fds.map (·.2)) := by
  cases h with | obj h1 h2 h3 h4 => exact ⟨_, _, _, rfl, h1, h2, h3, h4⟩
def dFld (C : Addr) (f : Str) (d : TDE) : TDE := fun env P => d env fun x => match x with | .obj C' fs => C' = C ∧ ob (fs.lookup f) P | _ => False
theorem l_fld {C : Addr} {f : Str} {K : PySem.W.Frag} (c : Cls K C) (n : NoAttr K C f) : ∀ σ H Q, lC F (dFld C f d) σ H Q → tFld K (lC F d) f σ H Q := fun σ H Q ⟨env, L, P, A, pp, q⟩ => ⟨env, L, _, A, pp, fun x v H1 px k1 o1 d1 => by
  cases x with
  | obj C' fs =>
    obtain ⟨rfl, px⟩ := px
    obtain ⟨y, hy, py⟩ := ob_elim px
    obtain ⟨t, dx, us, rfl, h1, _, h2, h3⟩ := dd_objE d1
    rcases look_rel (f := f) h2 h3 with ⟨_, h⟩ | ⟨w, y', g1, g2, g3⟩
    · rw [h] at hy
      cases hy
    · rw [g2] at hy
      cases hy
      exact ⟨t, _, dx, us, w, rfl, h1, c, n, g1, q _ _ H1 py k1 o1 g3⟩
  | _ => exact px.elim⟩
def dMeth (C : Addr) (m : Str) (sp : DSp) (d : TDE) (ds : TDA) : TDE := fun env P => d env fun x => match x with | .obj C' fs => C' = C ∧ fs.lookup m = none ∧ ds env fun xs => sp (.obj C' fs :: xs) P | _ => False
theorem l_meth {C : Addr} {m : Str} {fr : Fr} {sp : DSp} {E : XK} {K : PySem.W.Frag} (hK : F.K = K) : ∀ σ H Q, lC F (dMeth C m sp d ds) σ H Q → tMeth C m (lSp K fr sp) [] E (lC F d) (lA F ds) σ H Q := fun σ H Q ⟨env, L, P, A, pp, q⟩ => by
  subst hK
  exact ⟨env, L, _, A, pp, fun x v H1 px k1 o1 d1 => by
    cases x with
    | obj C' fs =>
      obtain ⟨rfl, hn, px⟩ := px
      obtain ⟨t, dx, us, rfl, h1, _, h2, h3⟩ := dd_objE d1
      have hm : us.lookup m = none := by
        rcases look_rel (f := m) h2 h3 with ⟨h, _⟩ | ⟨w, y', g1, g2, g3⟩
        · exact h
        · rw [hn] at g2
          cases g2
      exact ⟨t, dx, us, rfl, h1, hm, env, L, _, A.step k1 o1, px, fun xs vs H2 pxs k2 o2 d2 => ⟨F.W, F.N L, _, P, fun a h => ((A.step k1 o1).step k2 o2).alN h, fun a h => .inl (A.wn a h), o2, by rw [List.append_nil]; exact .cons ((A.step k1 o1).kd k2 d1) d2, pxs, fun x v H3 p3 k3 o3 d3 _ => q x v H3 p3 ((k1.trans k2).trans k3) o3 d3⟩⟩
    | _ => exact px.elim⟩
theorem l_meth0 {C : Addr} {m : Str} {fr : Fr} {sp : DSp} {E : XK} {K : PySem.W.Frag} (hK : F.K = K) : ∀ σ H Q, lC F (dMeth C m sp d aNil) σ H Q → tMeth C m (lSp K fr sp) [] E (lC F d) tNil σ H Q := fun σ H Q h => by
  obtain ⟨env, L, P, A, pp, q⟩ := l_meth (fr := fr) (E := E) hK σ H Q h
  exact ⟨env, L, P, A, pp, fun x v H' px k o dd => let ⟨t, dx, fs, h1, h2, h3, h4⟩ := q x v H' px k o dd; ⟨t, dx, fs, h1, h2, h3, l_nil σ H' _ h4⟩⟩
def lInit (K : PySem.W.Frag) (C : Addr) (f : Str) (sp : DSp) : Sp := fun vs H Q _ => ∃ (W : Wd) (N0 : Addr → Prop) (x dx : Addr) (us : List V) (ds : List D) (P : D → Prop) (H1 : Hp), vs = .ref x :: us ∧ H1 x = none ∧ H1 dx = none ∧ dx ≠ x ∧ H = upd (upd H1 dx (.own x)) x (.ins C dx []) ∧
  (∀ a, N0 a → ∃ o, H1 a = some o) ∧ (∀ a, W.own a → N0 a) ∧ W.ok H1 ∧ DdAll K N0 W H1 us ds ∧ sp ds P ∧ ∀ y H', P y → KeepW W H1 H' → W.ok H' → Dd K N0 W H' (.ref x) (.obj C [(f, y)]) → Q .non H'
def dMk (C : Addr) (f : Str) (sp : DSp) (ds : TDA) : TDE := fun env P => ds env fun xs => sp xs fun y => P (.obj C [(f, y)])
theorem l_make {C : Addr} {f : Str} {sp : DSp} {E : XK} {K : PySem.W.Frag} (hK : F.K = K) : ∀ σ H Q, lC F (dMk C f sp ds) σ H Q → tMake C (lInit K C f sp) [] E (lA F ds) σ H Q := fun σ H Q ⟨env, L, P, A, pp, q⟩ => by
  subst hK
  exact ⟨env, L, _, A, pp, fun xs vs H1 px k1 o1 d1 x dx nx nd ne => ⟨F.W, F.N L, x, dx, vs, xs, _, H1, by rw [List.append_nil], nx, nd, ne, rfl, fun a h => (A.step k1 o1).alN h, fun a h => .inl (A.wn a h), o1, d1, px, fun y H' py k2 o2 d2 => ⟨rfl, q _ _ H' py (k1.trans k2) o2 d2⟩⟩⟩
end
def mergeD (kds more : List (Key × D)) : List (Key × D) := more.foldl (fun acc kd => putD acc kd.1 kd.2) kds
theorem merge_rel {K : PySem.W.Frag} {N : Addr → Prop} {W : Wd} {H : Hp} : ∀ {more : List (Key × V)} {mored : List (Key × D)} {kvs : List (Key × V)} {kds : List (Key × D)}, more.map (·.1) = mored.map (·.1) → DdAll K N W H (more.map (·.2)) (mored.map (·.2)) → kvs.map (·.1) = kds.map (·.1) → DdAll K N W H (kvs.map (·.2)) (kds.map (·.2)) →
    (mergeK kvs more).map (·.1) = (mergeD kds mored).map (·.1) ∧ DdAll K N W H ((mergeK kvs more).map (·.2)) ((mergeD kds mored).map (·.2))
  | [], [], _, _, _, _, h1, h2 => ⟨h1, h2⟩
  | [], _ :: _, _, _, e, _, _, _ => by cases e
  | _ :: _, [], _, _, e, _, _, _ => by cases e
  | (k1, v) :: more, (k2, d) :: mored, kvs, kds, e, .cons h a, h1, h2 => by
    have e1 : k1 = k2 := (List.cons.inj e).1
    subst e1
    obtain ⟨r1, r2⟩ := put_rel (k := k1) h1 h2 h
    exact merge_rel (more := more) (mored := mored) (kvs := putK kvs k1 v) (kds := putD kds k1 d) (List.cons.inj e).2 a r1 r2
theorem mergeD_new : ∀ (more kds : List (Key × D)), ((kds ++ more).map (·.1)).Nodup → mergeD kds more = kds ++ more
  | [], kds, _ => by rw [List.append_nil]; rfl
  | (k, d) :: more, kds, h => by
    have hk : (kds.any fun kd => decide (kd.1 = k)) = false := by
      rw [Bool.eq_false_iff]
      intro hz
      obtain ⟨q, hq, e⟩ := List.any_eq_true.mp hz
      have e := of_decide_eq_true e
      rw [List.map_append, List.nodup_append] at h
      exact h.2.2 q.1 (List.mem_map.mpr ⟨q, hq, rfl⟩) k (by simp) e
    have e2 : putD kds k d = kds ++ [(k, d)] := by
      unfold putD
      rw [hk]
      rfl
    show mergeD (putD kds k d) more = _
    rw [e2, mergeD_new more (kds ++ [(k, d)]) (by rw [List.append_assoc]; exact h), List.append_assoc]
    rfl
def dDictZip (ds : TDA) : TDE := fun env P => ds env fun xs => match xs with
  | [.lst ks, .lst ys] => ob (keysD ks) fun kk => kk.length = ys.length ∧ P (.dic (mergeD [] (kk.zip ys)))
  | _ => False
theorem l_dictZip {F : Fx} {ds : TDA} {K : PySem.W.Frag} (hK : F.K = K) : ∀ σ H Q, lN F (dDictZip ds) σ H Q → RK.tDictZip K (lA F ds) σ H Q := fun σ H Q ⟨env, L, P, A, pp, q⟩ => ⟨env, L, _, A, pp, fun xs vs H1 px k1 o1 d1 => by
  match xs, px, d1 with
  | [.lst ks, .lst ys], px, .cons da (.cons db .nil) =>
    obtain ⟨kk, hk, hl, px⟩ := ob_elim px
    obtain ⟨a, us, rfl, h1, _, h2⟩ := dd_lstE da
    obtain ⟨b, ws, rfl, h3, _, h4⟩ := dd_lstE db
    have hu := keysD_v h2 hk
    subst hu
    have hl2 : kk.length = ws.length := by rw [h4.len]; exact hl
    refine ⟨a, b, kk, ws, rfl, SqL.of h1, SqL.of h3, hl2, fun p hp => q _ p _ px (k1.trans (.new hp)) (ok_new o1 hp) (free_of k1 o1 hp) ?_⟩
    obtain ⟨r1, r2⟩ := merge_rel (K := F.K) (N := F.N L) (W := F.W) (H := H1) (more := kk.zip ws) (mored := kk.zip ys) (kvs := []) (kds := []) (by rw [List.map_fst_zip (by omega), List.map_fst_zip (by omega)]) (by rw [List.map_snd_zip (by omega), List.map_snd_zip (by omega)]; exact h4) rfl .nil
    exact ⟨_, upd_same, r1, new_pres (A.step k1 o1) hp r2⟩⟩
section
variable {P : Program} {w : World} {K : PySem.W.Frag} {mg : Str → Option Value} {base : Heap} {CX : CXT} {k : Nat} {f : Addr} {fd : FuncData} {ps : List Str}
def sp_pull : DSp := fun ds P => ∃ n : Int, ds = [.bag, .int n] ∧ 1 ≤ n ∧ n ≤ 10000000000000000000000000000000000000000 ∧ ∀ r : Int, 0 ≤ r → r < n → P (.int r)
theorem keepW_of {b s : Addr} {T : List (Addr × Str)} {H H' : Hp} (k : RK.Keep b H H') : KeepW (some (b, s, T)) H H' := fun a o n h => k a o (fun z => n (.inl z)) h
theorem tabs_keep {b s : Addr} {T : List (Addr × Str)} {H H' : Hp} (B : Bag b s H) (t : LamX.Tabs T H) (k : RK.Keep b H H') : LamX.Tabs T H' := fun p hp => by
  obtain ⟨ys, hb⟩ := B.hb
  obtain ⟨ps, h1, h2, h3⟩ := t p hp
  refine ⟨ps, k _ _ (fun z => by rw [z, hb] at h1; cases h1) h1, h2, fun pos cv hc => ?_⟩
  obtain ⟨c, e, hcd⟩ := h3 pos cv hc
  exact ⟨c, e, k _ _ (fun z => by rw [z, hb] at hcd; cases hcd) hcd⟩
theorem bag_arg {N : Addr → Prop} {W : Wd} {H : Hp} {v : V} (h : Dd K N W H v .bag) : ∃ b s T, W = some (b, s, T) ∧ v = .ref b := by
  cases h with | bag e => exact ⟨_, _, _, e, rfl⟩
theorem pull_d (h : FnOk P w K mg base CX k f fd ps spPull) : FnOk P w K mg base CX k f fd ps (lSp K false sp_pull) := h.imp fun vs H Q E ⟨W, N0, ds, Pd, al, wn, ok, dd, ⟨n, e, h1, h2, h3⟩, q⟩ => by
  subst e
  cases dd with | cons d1 dd => cases dd with | cons d2 dd =>
    cases dd
    obtain ⟨b, s, T, rfl, rfl⟩ := bag_arg d1
    have := dd_intE d2
    subst this
    exact ⟨b, s, n, rfl, ok.1, h1, h2, fun r H' r0 r1 k B => q _ _ H' (h3 r r0 r1) (keepW_of k.f) ⟨B, tabs_keep ok.1 ok.2.1 k.f, fun ne a ps h => let ⟨qs, q⟩ := k.n a ps h; ok.2.2 ne a qs q⟩ (.int r) ⟨fun z => (by cases z), fun j z => by cases z⟩⟩
end
end DL
namespace DL
open PySem PySem.Spec PyProof.Rows L2 RK
def st (n : Nat) (ds : List D) : De := ds.map En.fz ++ List.replicate (n - ds.length) En.no
def kwP (π : List Nat) (xs : List D) : List D := π.map fun i => xs.getD i .non
def dCallK (sp : DSp) (π : List Nat) (ds : TDA) : TDE := fun env P => ds env fun xs => xs.length = π.length ∧ sp (kwP π xs) P
section
variable {X : Cx} {F : Fx} {dk : TDA} {pos p : Pos} {CX : CXT} {k : Nat} {f : Addr} {fd : FuncData} {ps ks : List Str} {sp : DSp} {E : XK} {x : Str} {fr : Fr} {K : PySem.W.Frag}
end
section
variable {F : Fx} {env : De} {σ : L2.St} {L : List Addr} {H H' : Hp}
theorem Abs.setAny (A : Abs F env σ L H) (i : Nat) (v : Option V) : Abs F (env.set i .no) (σ.set i v) L H := by
  refine ⟨A.ok, A.al, A.wn, A.kp, A.fr, by rw [List.length_set, List.length_set, A.ls], fun j l a ej el h1 h2 o1 o2 s1 s2 => ?_, fun j e y h1 h2 => ?_⟩
  · have f : ∀ (j : Nat) (ej : En), (env.set i .no)[j]? = some ej → ej.isOw = true → i ≠ j := fun j ej h o z => by
      subst z
      by_cases hi : i < env.length
      · rw [List.getElem?_set_self hi] at h
        cases h
        cases o
      · rw [List.getElem?_eq_none (by rw [List.length_set]; omega)] at h
        cases h
    have hj := f j ej h1 o1
    have hl := f l el h2 o2
    rw [List.getElem?_set_ne hj] at h1 s1
    rw [List.getElem?_set_ne hl] at h2 s2
    exact A.sep j l a ej el h1 h2 o1 o2 s1 s2
  · by_cases hj : i = j
    · subst hj
      by_cases hi : i < env.length
      · rw [List.getElem?_set_self hi] at h1
        cases h1
        trivial
      · rw [List.getElem?_eq_none (by rw [List.length_set]; omega)] at h1
        cases h1
    · rw [List.getElem?_set_ne hj] at h1 h2
      exact A.en j e y h1 h2
end
theorem init1 {K : PySem.W.Frag} {W : Wd} {N0 : Addr → Prop} {H1 : Hp} {x dx C : Addr} {f : Str} {us : List V} {ds : List D} {N : List Str} {Pd : D → Prop} {Q : VK} {d1 d2 : TDE} (c : Cls K C) (na : NoAttr K C f) (nx : H1 x = none) (ndx : H1 dx = none) (ne : dx ≠ x)
    (al : ∀ a, N0 a → ∃ o, H1 a = some o) (wn : ∀ a, W.own a → N0 a) (ok : W.ok H1) (dd : DdAll K N0 W H1 us ds) (hN : us.length + 1 ≤ N.length)
    (q : ∀ y H', Pd y → KeepW W H1 H' → W.ok H' → Dd K N0 W H' (.ref x) (.obj C [(f, y)]) → Q .non H') (h : d1 (.no :: startE (N.drop 1) ds) fun _ => d2 (.no :: startE (N.drop 1) ds) Pd) :
    tSeq (tDrop (lC ⟨K, W, N0, H1, false⟩ d1)) (sFld K (tVar 0) (lN ⟨K, W, N0, H1, false⟩ d2) f) { nx := fun _ H' => Q .non H', rt := Q } (L2.start N (.ref x :: us)) (upd (upd H1 dx (.own x)) x (.ins C dx [])) := by
  obtain ⟨n0, N', rfl⟩ : ∃ n0 N', N = n0 :: N' := by
    cases N with
    | nil => simp at hN
    | cons a b => exact ⟨a, b, rfl⟩
  have A0 : Abs ⟨K, W, N0, H1, false⟩ (startE (n0 :: N') (.non :: ds)) (L2.start (n0 :: N') (.non :: us)) [] H1 := abs_start al wn ok (.cons .non dd)
  have A1 := A0.setAny 0 (some (.ref x))
  have e1 : (startE (n0 :: N') (.non :: ds)).set 0 .no = .no :: startE N' ds := by
    unfold startE
    rw [List.map_cons, List.cons_append, List.set_cons_zero, List.length_cons, List.length_cons, Nat.add_sub_add_right]
  have e2 : (L2.start (n0 :: N') (.non :: us)).set 0 (some (.ref x)) = L2.start (n0 :: N') (.ref x :: us) := by
    unfold L2.start
    rw [List.map_cons, List.cons_append, List.set_cons_zero]
    rfl
  rw [e1, e2] at A1
  have nx2 : (upd H1 dx (.own x)) x = none := by rw [upd_ne ne.symm]; exact nx
  have k0 : KeepW W H1 (upd (upd H1 dx (.own x)) x (.ins C dx [])) := (KeepW.new ndx).trans (.new nx2)
  have o0 : W.ok (upd (upd H1 dx (.own x)) x (.ins C dx [])) := ok_new (ok_new ok ndx) nx2
  have A2 : Abs ⟨K, W, N0, H1, false⟩ (.no :: startE N' ds) (L2.start (n0 :: N') (.ref x :: us)) [x] (upd (upd H1 dx (.own x)) x (.ins C dx [])) := A1.grow k0 o0 (pres_cons A1 k0 nx) (fun a h => by cases h) fun a h => by
    rcases List.mem_cons.mp h with h | h
    · subst h
      exact .inr ⟨nx, _, upd_same, True.intro⟩
    · cases h
  have nox : ¬ W.own x := fun z => by
    obtain ⟨o, e⟩ := al x (wn x z)
    rw [nx] at e
    cases e
  refine ⟨_, _, _, A2, h, fun _ v H2 p2 k2 o2 _ => ?_⟩
  have A3 := A2.step k2 o2
  refine ⟨_, _, _, A3, p2, fun y a H3 p3 k3 o3 na3 nv => ?_⟩
  have hx : H3 x = some (.ins C dx []) := k3 x _ nox (k2 x _ nox upd_same)
  refine ⟨.ref x, rfl, x, C, dx, [], rfl, hx, c, na, by decide, q y _ p3 ?_ ?_ ?_⟩
  · intro b o nb hb
    have hne : b ≠ x := ne_of_none hb nx
    rw [upd_ne hne]
    exact k3 b o nb (k2 b o nb (k0 b o nb hb))
  · exact Wd.st o3 (n := noT_upd True.intro) fun b o hb nb => by
      have hne : b ≠ x := fun z => by
        rcases nb with nb | nb
        · exact nox (z ▸ nb)
        · rw [z, hx] at hb
          exact nb (Option.some.inj hb ▸ True.intro)
      rw [upd_ne hne]
      exact hb
  · have hn : ¬ N0 x := fun z => by
      obtain ⟨o, e⟩ := al x z
      rw [nx] at e
      cases e
    have A4 := A3.step k3 o3
    have dy : Dd K (Fx.N ⟨K, W, N0, H1, false⟩ [x]) W H3 (.ref a) y := nv.dd (A3.new na3)
    have dy2 : Dd K N0 W (upd H3 x (.ins C dx (putF f (.ref a) []))) (.ref a) y := dy.pres fun b o nb hb => ⟨fun z => nb (.inl z), by
      have hne : b ≠ x := fun z => nb (.inr (by rw [z]; exact List.mem_cons_self))
      rw [upd_ne hne]
      exact hb⟩
    exact .obj upd_same hn rfl (.cons dy2 .nil)
theorem pss_ex {X : Cx} {K : PySem.W.Frag} {sts : List Stmt} {d : TDS} (h : ∀ W N0 H0, PSs X sts (lS ⟨K, W, N0, H0, false⟩ d)) : PSs X sts (fun E σ H => ∃ W N0 H0, lS ⟨K, W, N0, H0, false⟩ d E σ H) := ⟨fun pins s σ H E I ⟨W, N0, H0, q⟩ => (h W N0 H0).run pins s σ H E I q⟩
def spLaw (K : PySem.W.Frag) : Sp := fun vs H Q _ => ∃ (a : Addr) (ns : List Int), vs = [.ref a] ∧ SqL K H a (ns.map V.int) ∧ ns.length ≤ 63 ∧ ∀ H', Q (.bl true) H'
theorem law_bag {K : PySem.W.Frag} {Q : VK} {d : TDS} {H H' : Hp} {a b s : Addr} {n : Nat} (e : Same H H') (nb : H b = none) (B : Bag b s H') (q : ∀ H', Q (.bl true) H') (h : d { nx := fun _ => False, rt := fun x => x = .bl true } (.no :: .fz .bag :: List.replicate n .no)) :
    ∃ W N0 H0, lS ⟨K, W, N0, H0, false⟩ d { nx := fun _ H' => Q .non H', rt := Q } (some (.ref a) :: some (.ref b) :: List.replicate n none) H' := by
  refine ⟨some (b, s, []), fun z => z = b ∨ z = s, H', _, [], _, ?_, h, fun _ _ _ _ z => z.elim, fun x v H2 hx r => ?_, fun _ _ _ _ z => z.elim, fun _ _ _ _ z => z.elim⟩
  · obtain ⟨yb, hb⟩ := B.hb
    obtain ⟨ys, hs⟩ := B.hs
    refine ⟨⟨B, (fun p hp => by cases hp), fun ne => absurd rfl ne⟩, fun z hz => ?_, fun z hz => hz.imp id fun hz => hz.resolve_right fun ⟨p, hp, _⟩ => (by cases hp), .refl _ _, fun z hz => (by cases hz), ?_, fun i j z ei ej h1 h2 o1 o2 _ _ => ?_, fun i e x h1 h2 => ?_⟩
    · rcases hz with rfl | rfl
      · exact ⟨_, hb⟩
      · exact ⟨_, hs⟩
    · simp
    · exfalso
      match i, h1 with
      | 0, h1 => cases h1; cases o1
      | 1, h1 => cases h1; cases o1
      | i + 2, h1 =>
        rw [List.getElem?_cons_succ, List.getElem?_cons_succ] at h1
        rw [(List.mem_replicate.mp (List.mem_of_getElem? h1)).2] at o1
        cases o1
    · match i, h1, h2 with
      | 0, h1, h2 => cases h1; trivial
      | 1, h1, h2 =>
        cases h1
        cases h2
        exact .bag rfl
      | i + 2, h1, h2 =>
        rw [List.getElem?_cons_succ, List.getElem?_cons_succ] at h1
        rw [(List.mem_replicate.mp (List.mem_of_getElem? h1)).2]
        trivial
  · subst hx
    have := dd_blE r.dd
    subst this
    exact q H2
end DL
namespace RK
open PySem PySem.Spec PyProof.Rows L2
open PySem.Sem (wp)
abbrev enT1 (l : Addr) : Obj := { cls := .type "tuple_iterator", data := .fields #[.ref l, .int 0 0] }
abbrev enT2 (n : Addr) : Obj := { cls := .type "enumerate", data := .fields #[.none, .bool false, .ref n, rawInt 0, .none, .none] }
theorem meets_enumT (l : Addr) (its : Array Value) :
    Meets (Builtin.«enumerate.__new__» ⟨[.type "enumerate", .ref l], []⟩) (fun _ R s => s.heap.IsTuple l its ∧ R (.ok (.ret (.ref (s.heap.push (enT1 l)).objs.size))) { s with heap := (s.heap.push (enT1 l)).push (enT2 s.heap.objs.size) }) :=
  .of_wp fun prog w A R s h => by
    obtain ⟨hp, g, d, tk, os⟩ := s
    obtain ⟨ht, h⟩ := h
    have sb := sub_enumerate
    have hT : Heap.IsTuple (Shared.heap ⟨hp, g, d, tk, os⟩) l its := ht
    obtain ⟨⟨c, dct, dt, sl⟩, ho, hc, n, hd⟩ := id hT
    replace hc : c = .type "tuple" := hc
    replace hd : dt = .seq its n := hd
    subst hc hd
    wp_walk using AutoSeq1.wpAny_loadPart' ho
    refine wpAny_stack_any fun stk => wpAny_pure ?_
    split
    · rename_i c _ _ _ _ _
      cases (c == Value.type "enumerate")
      · wp_walk using AutoSeq1.wpAny_loadPart' ho, wpAny_pyIter_tuple hT
        exact ⟨_, rfl, h⟩
      · wp_walk using AutoSeq1.wpAny_loadPart' ho, wpAny_pyIter_tuple hT
        exact ⟨_, rfl, h⟩
    · wp_walk using AutoSeq1.wpAny_loadPart' ho, wpAny_pyIter_tuple hT
      exact ⟨_, rfl, h⟩
theorem call_enumT {prog : Program} {w : World} {A : Around} {E : Value → Shared → Prop} {s : Shared} {l : Addr} {its : Array Value} {Q : Value → Shared → Prop} (hT : s.heap.IsTuple l its)
    (h : ∀ h', IsEnum h' (s.heap.objs.size + 1) s.heap.objs.size 0 .none → h'.IsTupleIter s.heap.objs.size l 0 → (∀ b o, s.heap.get? b = some o → h'.get? b = some o) → Q (.ref (s.heap.objs.size + 1)) { s with heap := h' }) :
    wpAny (model prog w) A (call (.type "enumerate") [.ref l]) Q E s := by
  refine callType_new F.called_enumerate (by decide) (F.typeCall_enumerate_1 _) (F.newCall_enumerate_1 _) (fun obj => F.args_object_init_2 obj _) F.entry_enumerate_new (meets_enumT l its) ⟨hT, ?_⟩
  have z1 : (s.heap.push (enT1 l)).objs.size = s.heap.objs.size + 1 := Heap.size_push ..
  show _ ∧ _
  rw [z1]
  have en : IsEnum ((s.heap.push (enT1 l)).push (enT2 s.heap.objs.size)) (s.heap.objs.size + 1) s.heap.objs.size 0 .none := by
    have g := Heap.get?_push_size (s.heap.push (enT1 l)) (o := enT2 s.heap.objs.size) rfl
    rw [z1] at g
    exact g
  exact ⟨⟨_, en, rfl⟩, h _ en ⟨_, Heap.get?_push_of_some _ (Heap.get?_push_size _ rfl), rfl, rfl⟩ fun b o q => Heap.get?_push_of_some _ (Heap.get?_push_of_some _ q)⟩
def IteT (K : PySem.W.Frag) (a : Addr) : It :=
  ⟨fun i H => ∃ (xs : List V) (x : V), SqT K H a xs ∧ xs[i]? = some x, fun i H v H' => ∃ T x, v = .ref T ∧ H T = none ∧ H' = upd H T (.tup [.int (i : Nat), x]) ∧ ∀ xs, SqT K H a xs → xs[i]? = some x, fun i H => ∃ xs : List V, SqT K H a xs ∧ xs.length = i⟩
theorem turn_enumT {P : Program} {w : World} {K : PySem.W.Frag} {elts : List Expr} {kk : Nat} {tpos : Pos} (a e it : Addr) (hae : e ≠ a) (hai : a ≠ it) (hei : e ≠ it) :
    Turn P w K (.Tuple elts kk tpos) (IteT K a) [e, it] e (fun i h => (∃ old, IsEnum h e it ((i : Nat) : Int) old) ∧ h.IsTupleIter it a i) where
  mem := List.mem_cons_self
  obj := fun i h tn b hb => by
    obtain ⟨⟨old, he⟩, ⟨o, ho, hc, hd⟩⟩ := tn
    rcases List.mem_cons.mp hb with z | z
    · rw [z]
      exact ⟨_, he, fun v q => nomatch q⟩
    · rw [List.mem_singleton.mp z]
      exact ⟨o, ho, fun v q => by rw [hd] at q; cases q⟩
  keep := fun i h h' tn k => ⟨let ⟨old, he⟩ := tn.1; ⟨old, k e List.mem_cons_self _ he⟩, tn.2.at fun o q => k it (by simp) o q⟩
  item := by
    intro X hP hw hK hc i pins s σ H E I hf tn go
    subst hP hw hK
    obtain ⟨⟨old, he⟩, hit⟩ := tn
    obtain ⟨xs, x, hq, hx⟩ := go
    obtain ⟨its, rv, p, hz⟩ := I.tuple hq
    obtain ⟨u, hu, ru⟩ := rv.get hx
    have hil : i < its.toArray.size := by simpa using (List.getElem?_eq_some_iff.mp hu).1
    have ue : its.toArray[i]? = some u := by simpa using hu
    have he1 : e < s.heap.objs.size := Heap.lt_size he
    have he2 : it < s.heap.objs.size := let ⟨_, q, _⟩ := hit; Heap.lt_size q
    refine wpAny_pyNext_enum_itemD (Draws.tuple (A := X.A.in1) (show X.A.in1.handled = none from I.ok.hd hc) it a hai its.toArray) he ⟨hit, p⟩ hil hei (by simp [hae, hei]) fun v h' tk hv ho st2 hT hsz hk => ?_
    have ev : v = u := Option.some.inj (hv.symm.trans ue)
    subst ev
    refine ⟨_, rfl, wpAny_letOwnedTupleGo_enum (s := { s with heap := h', toks := tk + 1 }) ho fun h'' en sb => ?_⟩
    have hT2 : h''.get? s.heap.objs.size = some { cls := .type "tuple", data := .seq #[.int i tk, v] } := (sb.2 _ (Nat.ne_of_gt he1)).trans hT
    have new : ObjOk X.prog X.w (upd H s.heap.objs.size (.tup [.int (i : Nat), x])) h'' s.heap.objs.size (.tup [.int (i : Nat), x]) :=
      ⟨(by show 2 ≤ sizeLine; decide), [.int i tk, v], .cons ⟨tk, rfl⟩ (.cons ru .nil), ⟨_, hT2, rfl, _, rfl⟩⟩
    have I1 : Inv X pins σ (upd H s.heap.objs.size (.tup [.int (i : Nat), x])) { s with heap := h'', toks := tk + 1 } :=
      I.turnedNew (ch := [e, it]) (fun b ob hb q => by
        have b1 : b ≠ e := fun z => hb (by rw [z]; exact List.mem_cons_self)
        have b2 : b ≠ it := fun z => hb (by rw [z]; simp)
        exact (sb.2 b b1).trans (hk b ob b1 b2 q)) hf (Nat.le_refl _) new
    refine ⟨.ref s.heap.objs.size, _, I1, rfl, ⟨_, x, rfl, I.hok.fresh (Nat.le_refl _), rfl, fun ys hy => by rw [I.tuple_inj hy hq]; exact hx⟩, ⟨⟨v, ?_⟩, st2.1.at fun o q => (sb.2 it hei.symm).trans q⟩, fun b hb => ?_⟩
    · rw [show ((i + 1 : Nat) : Int) = (i : Int) + 1 by omega]
      exact en
    · have lt : b < s.heap.objs.size := by
        rcases List.mem_cons.mp hb with z | z
        · rw [z]; exact he1
        · rw [List.mem_singleton.mp z]; exact he2
      rw [upd_ne (Nat.ne_of_lt lt)]
      exact (hf b hb).1
  done := by
    intro X hP hw hK hc i pins s σ H E I hf tn go
    subst hP hw hK
    obtain ⟨⟨old, he⟩, hit⟩ := tn
    obtain ⟨xs, hq, hx⟩ := go
    obtain ⟨its, rv, p, hz⟩ := I.tuple hq
    obtain ⟨f0, f1, f2, f3, f4, f5⟩ := hf it (by simp)
    have hl : its.toArray.size = i := by rw [List.size_toArray, ← rv.length]; exact hx
    exact wpAny_pyNext_enum_endD (Draws.tuple (A := X.A.in1) (show X.A.in1.handled = none from I.ok.hd hc) it a hai its.toArray) he (by rw [hl]; exact ⟨hit, p⟩) fun h' eb => ⟨rfl, I.turned (t' := s.toks) (fun b o hb q => eb b o hb q) f0 f1 f3 f4 f5⟩
  self := fun A i s Q E tn h => let ⟨⟨_, he⟩, _⟩ := tn; wpAny_pyIter_enum he h
def iEnumT (K : PySem.W.Frag) (ta : TA) : TI := fun σ H R => ta σ H fun vs H1 => ∃ a xs, vs = [.ref a] ∧ SqT K H1 a xs ∧ R (IteT K a) H1
theorem pi_enumT {X : Cx} {e : Expr} {ta : TA} {p pos tpos : Pos} {elts : List Expr} {kk : Nat} (hg : Gl X "enumerate") (hm : X.mg "enumerate" = none) (ha : PA X [e] ta) (hs : starEach [e] X.env = [(false, eval e X.env)] := by rfl) :
    PI X (.Tuple elts kk tpos) (.Call (.Name "enumerate" p) [e] [] pos) (iEnumT X.K ta) := ⟨fun pins s σ H R I h => by
  refine Call_ (ld_blt I hg hm boot_enumerate (PyProof.Rows.callWith_type1 (thn (ha.run pos pins s σ H _ I h) fun us s1 ⟨vs, H1, I1, r1, q1⟩ => ?_) hs rfl))
  obtain ⟨a, xs, rfl, hq, q⟩ := q1
  obtain ⟨u, rfl, ru⟩ := vals1 r1
  cases ru
  obtain ⟨its, rv, pt, hz⟩ := I1.tuple hq
  have la : a < s1.heap.objs.size := pt.lt
  refine call_enumT pt fun h' he hit hk => wpAny_pyIter_enum he ?_
  refine ⟨s1.heap.objs.size + 1, [s1.heap.objs.size + 1, s1.heap.objs.size], _, _, H1, rfl, I1.kept (t' := s1.toks) hk, turn_enumT a (s1.heap.objs.size + 1) s1.heap.objs.size (Nat.ne_of_gt (Nat.lt_succ_of_lt la)) (Nat.ne_of_lt la) (Nat.succ_ne_self _), ⟨⟨.none, he⟩, hit⟩, fun b hb => ?_, q⟩
  have le : s1.heap.objs.size ≤ b := by
    rcases List.mem_cons.mp hb with z | z
    · rw [z]; exact Nat.le_add_right _ _
    · rw [List.mem_singleton.mp z]; exact Nat.le_refl _
  exact I1.fpOk le (I1.hok.fresh le)⟩
end RK
namespace DL
open PySem PySem.Spec PyProof.Rows L2 RK
section
variable {X : Cx} {F : Fx} {e a b c tg iter : Expr} {es : List Expr} {d da db dc : TDE} {ds : TDA} {pos p : Pos} {i j l : Nat}
def enuD : Nat → List D → List D
  | _, [] => []
  | k, x :: xs => .tup [.int (k : Nat), x] :: enuD (k + 1) xs
theorem enu_len : ∀ (k : Nat) (xs : List D), (enuD k xs).length = xs.length
  | _, [] => rfl
  | k, x :: xs => by rw [enuD, List.length_cons, enu_len, List.length_cons]
theorem enu_get : ∀ (k i : Nat) (xs : List D), (enuD k xs)[i]? = xs[i]?.map fun x => .tup [.int ((k + i : Nat) : Int), x]
  | k, i, [] => by simp [enuD]
  | k, 0, x :: xs => rfl
  | k, i + 1, x :: xs => by
    rw [enuD, List.getElem?_cons_succ, enu_get (k + 1) i xs, List.getElem?_cons_succ]
    have : k + 1 + i = k + (i + 1) := by omega
    rw [this]
def iEnu (d : TDE) : TDI := fun env P => (d env fun x => ob (lstD x) fun xs => P (enuD 0 xs)) ∨ (d env fun x => ob (tupD x) fun xs => P (enuD 0 xs))
theorem enu_new {N' : Addr → Prop} {H' H2 : Hp} {T : Addr} {v : V} {x : D} {i : Nat} (al : ∀ a, N' a → ∃ o, H' a = some o) (hT : H' T = none) (h2 : H2 = upd H' T (.tup [.int (i : Nat), v])) (dv : Dd F.K N' F.W H' v x) :
    Stn H' H2 ∧ Dd F.K N' F.W H2 (.ref T) (.tup [.int (i : Nat), x]) := by
  subst h2
  have kp : ∀ a o, H' a = some o → upd H' T (.tup [.int (i : Nat), v]) a = some o := fun a o h => by rw [upd_ne (ne_of_none h hT)]; exact h
  refine ⟨.new hT True.intro, .tup upd_same (fun z => ?_) (.cons (.int _) (.cons (dv.keep (fun a u _ h => kp a u h) fun _ z => z) .nil))⟩
  obtain ⟨o, ho⟩ := al T z
  rw [hT] at ho
  cases ho
theorem it_enuL {Rel : (Addr → Prop) → Hp → Prop} {t : Addr} {vs : List V} {xs : List D} (h : ∀ N' H', Rel N' H' → H' t = some (.lst vs) ∧ DdAll F.K N' F.W H' vs xs) : ItOk F Rel (Ite F.K t) (enuD 0 xs) := fun N' H' r al i => by
  obtain ⟨h1, h2⟩ := h N' H' r
  refine ⟨fun hi => ⟨vs, SqL.of h1, by rw [h2.len, ← enu_len 0 xs]; exact Nat.le_of_eq hi⟩, fun x hx => ?_⟩
  rw [enu_get, Nat.zero_add] at hx
  obtain ⟨y, hy, rfl⟩ := Option.map_eq_some_iff.mp hx
  obtain ⟨v, hv, dv⟩ := h2.get hy
  refine ⟨⟨vs, v, SqL.of h1, hv⟩, fun w H2 hy => ?_⟩
  obtain ⟨T, z, rfl, hT, h2', hz⟩ := hy
  have := hz vs (SqL.of h1)
  rw [hv] at this
  cases this
  exact enu_new al hT h2' dv
theorem it_enuT {Rel : (Addr → Prop) → Hp → Prop} {t : Addr} {vs : List V} {xs : List D} (h : ∀ N' H', Rel N' H' → SqT F.K H' t vs ∧ DdAll F.K N' F.W H' vs xs) : ItOk F Rel (IteT F.K t) (enuD 0 xs) := fun N' H' r al i => by
  obtain ⟨h1, h2⟩ := h N' H' r
  refine ⟨fun hi => ⟨vs, h1, by rw [h2.len, ← enu_len 0 xs]; exact hi⟩, fun x hx => ?_⟩
  rw [enu_get, Nat.zero_add] at hx
  obtain ⟨y, hy, rfl⟩ := Option.map_eq_some_iff.mp hx
  obtain ⟨v, hv, dv⟩ := h2.get hy
  refine ⟨⟨vs, v, h1, hv⟩, fun w H2 hy => ?_⟩
  obtain ⟨T, z, rfl, hT, h2', hz⟩ := hy
  have := hz vs h1
  rw [hv] at this
  cases this
  exact enu_new al hT h2' dv
theorem di_enum {elts : List Expr} {kk : Nat} {tpos : Pos} (hg : Gl X "enumerate") (hm : X.mg "enumerate" = none) (he : PE X e (lC F d)) (hs : starEach [e] X.env = [(false, eval e X.env)] := by rfl) (hs2 : starEach [e] X.env = (false, eval e X.env) :: starEach [] X.env := by rfl) (hK : F.K = X.K := by rfl) :
    PI X (.Tuple elts kk tpos) (.Call (.Name "enumerate" p) [e] [] pos) (lI F (iEnu d)) := PI.mono (PI.or (pi_enum hg hm (pa_cons he pa_nil hs2) hs) (pi_enumT hg hm (pa_cons he pa_nil hs2) hs)) fun σ H R ⟨env, L, P, A, pp, q⟩ => by
  rw [← hK]
  rcases pp with pp | pp
  · refine .inl ⟨env, L, _, A, pp, fun x v H1 px k1 o1 d1 => ?_⟩
    obtain ⟨xs, e, px⟩ := ob_elim px
    have := lstD_e e
    subst this
    obtain ⟨t, vs, rfl, h1, h2, h3⟩ := dd_lstE d1
    exact ⟨t, vs, rfl, SqL.of h1, q _ _ H1 px k1 o1 (it_enuL fun N' H' r => ⟨(r t _ h2 h1).2, h3.pres r⟩)⟩
  · refine .inr ⟨env, L, _, A, pp, fun x v H1 px k1 o1 d1 => ?_⟩
    obtain ⟨xs, e, px⟩ := ob_elim px
    obtain ⟨t, vs, rfl, h1, h2⟩ := seqT_keep (N' := fun _ => False) (H' := H1) e d1
    exact ⟨t, vs, rfl, h1, q _ _ H1 px k1 o1 (it_enuT fun N' H' r => h2 N' H' r)⟩
theorem db_enum {elts : List Expr} {kk : Nat} {tpos : Pos} (hg : Gl X "enumerate") (hm : X.mg "enumerate" = none) (he : PE X e (lB F d)) (hs : starEach [e] X.env = [(false, eval e X.env)] := by rfl) (hs2 : starEach [e] X.env = (false, eval e X.env) :: starEach [] X.env := by rfl) (hK : F.K = X.K := by rfl) :
    PI X (.Tuple elts kk tpos) (.Call (.Name "enumerate" p) [e] [] pos) (lIb F (iEnu d)) := PI.mono (PI.or (pi_enum hg hm (pa_cons he pa_nil hs2) hs) (pi_enumT hg hm (pa_cons he pa_nil hs2) hs)) fun σ H R ⟨env, L, P, A, pp, q⟩ => by
  rw [← hK]
  rcases pp with pp | pp
  · refine .inl ⟨env, L, _, A, pp, fun x v H1 px k1 o1 d1 => ?_⟩
    obtain ⟨xs, e, px⟩ := ob_elim px
    have := lstD_e e
    subst this
    obtain ⟨t, vs, rfl, h1, h2, h3⟩ := bw_lstO (A.step k1 o1) d1
    exact ⟨t, vs, rfl, SqL.of h1, q _ _ H1 px k1 o1 (it_enuL fun N' H' r => ⟨(r t _ h2 h1).2, h3.pres (relK_p (A.step k1 o1) r)⟩)⟩
  · refine .inr ⟨env, L, _, A, pp, fun x v H1 px k1 o1 d1 => ?_⟩
    obtain ⟨xs, e, px⟩ := ob_elim px
    obtain ⟨t, vs, rfl, h1, h2⟩ := seqT_keep (N' := fun _ => False) (H' := H1) e (bw_tupC e d1)
    exact ⟨t, vs, rfl, h1, q _ _ H1 px k1 o1 (it_enuT fun N' H' r => h2 N' H' (relK_p (A.step k1 o1) r))⟩
abbrev SP := Str × Str
def encP (p : SP) : PyData := .tuple [.str p.1, .str p.2]
def srtP (ps : List SP) : List SP := ps.mergeSort (PySem.W.dataLe false encP)
theorem srtP_perm (ps : List SP) : (srtP ps).Perm ps := List.mergeSort_perm _ _
def rSrtP (K : PySem.W.Frag) : List V → Hp → VK → Prop := fun vs H Q => ∃ (a : Addr) (xs : List V) (ps : List SP) (R : V → SP → Prop), vs = [.ref a] ∧ SqL K H a xs ∧ Paired R xs ps ∧ (∀ x p, R x p → ∃ t, x = .ref t ∧ SqT K H t [.str p.1, .str p.2]) ∧
  ∀ ys t, Paired R ys (srtP ps) → H t = none → Q (.ref t) (upd H t (.lst ys))
theorem each_of {R : V → SP → Prop} : ∀ {xs : List V} {us : List Value} {ps : List SP}, Vals xs us → Paired R xs ps → PySem.W.EachIs (fun u p => ∃ x, RelV x u ∧ R x p) us ps
  | _, _, _, .nil, .nil => .nil
  | _, _, _, .cons r t, .cons h k => .cons ⟨_, r, h⟩ (each_of t k)
theorem of_each {R : V → SP → Prop} {us : List Value} {ps : List SP} (h : PySem.W.EachIs (fun u p => ∃ x, RelV x u ∧ R x p) us ps) : ∃ xs, Vals xs us ∧ Paired R xs ps := by
  induction h with
  | nil => exact ⟨[], .nil, .nil⟩
  | cons h t ih =>
    obtain ⟨x, r, hx⟩ := h
    obtain ⟨xs, h1, h2⟩ := ih
    exact ⟨x :: xs, .cons r h1, .cons hx h2⟩
theorem srtR {k : Nat} (hr : Room k X.A) : CallR X (.builtin "sorted") (rSrtP X.K) := by
  intro pins s σ H vs us Q I r h
  obtain ⟨a, xs, ps, R, rfl, hs, hp, hx, q⟩ := h
  obtain ⟨its, rv, hl, hz⟩ := I.list hs
  obtain ⟨u, rfl, ru⟩ := vals1 r
  obtain rfl : u = Value.ref a := ru
  have ev := each_of rv hp
  have lp : its.length = ps.length := ev.length
  have hL : ps.length ≤ sizeLine := by rw [← lp, ← rv.length]; exact hz
  have er : PySem.W.EachIs (fun u p => ∃ as, Reads s.heap u (encP p) as) its ps := by
    refine ev.mono fun u p h => ?_
    obtain ⟨x, rx, hxp⟩ := h
    obtain ⟨t, rfl, hq⟩ := hx x p hxp
    obtain rfl : u = Value.ref t := rx
    obtain ⟨it2, r2, pt, _⟩ := I.tuple hq
    obtain ⟨u1, u2, rfl, ri, rj⟩ := vals2 r2
    obtain ⟨t1, rfl⟩ := ri
    obtain ⟨t2, rfl⟩ := rj
    obtain ⟨o, g1, g2, n, g3⟩ := pt
    exact ⟨_, .tuple g1 g2 g3 (.cons (.str _ _) (.cons (.str _ _) .nil))⟩
  have hu : ∀ b, b ∈ ps → X.A.units + 2 + (encP b).depth < cLine := fun b _ => by
    have : (encP b).depth = 1 := by simp [encP, PyData.depth, PyData.depthAll]
    rw [this]
    have := hr.units
    omega
  refine PySem.W.sorted_data (enc := encP) hl.isList ev er (.of fun b b' => rfl) (.tuples fun b => ⟨_, _, rfl⟩) hL hu ?_
  intro out ho eo
  obtain ⟨ys, v2, p2⟩ := of_each eo
  obtain ⟨n, hn⟩ := sortedAll_at s.heap its out.toArray
  refine ⟨.ref (s.heap.objs.size + 1), upd H (s.heap.objs.size + 1) (.lst ys), I.laid (t' := s.toks) (fun _ _ => sortedAll_old) (Nat.le_succ _) ⟨?_, out, n, v2, hn⟩, rfl, q ys _ p2 (I.hok.fresh (Nat.le_succ _))⟩
  rw [v2.length, ho]
  exact hL
def pairD (p : SP) : D := .tup [.str p.1, .str p.2]
def dSortP (d : TDE) : TDE := fun env P => d env fun x => match x with
  | .lst xs => ∃ ps : List SP, xs = ps.map pairD ∧ P (.lst ((srtP ps).map pairD))
  | _ => False
theorem paired_of {K : PySem.W.Frag} {N : Addr → Prop} {W : Wd} {H : Hp} : ∀ {vs : List V} {ps : List SP}, DdAll K N W H vs (ps.map pairD) → Paired (fun v p => Dd K N W H v (pairD p)) vs ps
  | _, [], h => by
    have h' : DdAll K N W H _ [] := h
    cases h'
    exact .nil
  | _, p :: ps, h => by
    have h' : DdAll K N W H _ (pairD p :: ps.map pairD) := h
    cases h' with
    | cons h t => exact .cons h (paired_of t)
theorem of_paired {K : PySem.W.Frag} {N : Addr → Prop} {W : Wd} {H : Hp} {vs : List V} {ps : List SP} (h : Paired (fun v p => Dd K N W H v (pairD p)) vs ps) : DdAll K N W H vs (ps.map pairD) := by
  induction h with
  | nil => exact .nil
  | cons h _ ih => exact .cons h ih
theorem srtR' {k : Nat} (hr : Room k X.A) (hK : F.K = X.K) : CallR X (.builtin "sorted") (rSrtP F.K) := by
  rw [hK]
  exact srtR hr
theorem dn_sortP {k : Nat} (hr : Room k X.A) (hg : Gl X "sorted") (hm : X.mg "sorted" = none) (ha : PE X e (lB F d)) (he : starEach [e] X.env = (false, eval e X.env) :: starEach [] X.env := by rfl) (hpl : (backTo pos (starEach [] X.env)).any (·.1) = false := by rfl) (hK : F.K = X.K := by rfl) :
    PE X (.Call (.Name "sorted" p) [e] [] pos) (lN F (dSortP d)) := PE.mono (pe_callB (srtR' hr hK) hg hm (by decide +kernel) (pa_cons ha pa_nil he) (by decide) (by decide) he hpl) fun σ H Q ⟨env, L, P, A, pp, q⟩ =>
  ⟨env, L, _, A, pp, fun x v H1 px k1 o1 b1 => by
    have A1 := A.step k1 o1
    cases x with
    | lst xs =>
      obtain ⟨ps, rfl, px⟩ := px
      obtain ⟨a, vs, rfl, h1, h2⟩ := bw_lst b1
      refine ⟨a, vs, ps, _, rfl, SqL.of h1, paired_of h2, fun x p hx => ?_, fun ys t hy ht => q _ _ _ px (k1.trans (.new ht)) (ok_new o1 ht) (free_of k1 o1 ht) (new_lstN A1 ht (of_paired hy))⟩
      obtain ⟨t, us, rfl, g1, g2, g3⟩ := dd_tupE hx
      cases g3 with
      | cons e1 t1 =>
        cases t1 with
        | cons e2 t2 =>
          cases t2
          rw [dd_strE e1, dd_strE e2] at g1
          exact ⟨t, rfl, SqT.of g1⟩
    | _ => exact px.elim⟩
end
end DL
namespace DL
open PySem PySem.Spec PyProof.Rows L2 RK
section
variable {X : Cx} {F : Fx} {e a b c tg iter : Expr} {es : List Expr} {d da db dc : TDE} {ds : TDA} {pos p : Pos} {i j l : Nat}
def zipD : List D → List D → List D
  | x :: xs, y :: ys => .tup [x, y] :: zipD xs ys
  | _, _ => []
theorem zip_len : ∀ (xs ys : List D), (zipD xs ys).length = min xs.length ys.length
  | [], _ => by simp [zipD]
  | _ :: _, [] => by simp [zipD]
  | x :: xs, y :: ys => by rw [zipD, List.length_cons, zip_len, List.length_cons, List.length_cons]; omega
theorem zip_get : ∀ (i : Nat) (xs ys : List D) (z : D), (zipD xs ys)[i]? = some z → ∃ x y, xs[i]? = some x ∧ ys[i]? = some y ∧ z = .tup [x, y]
  | _, [], _, _, h => by simp [zipD] at h
  | _, _ :: _, [], _, h => by simp [zipD] at h
  | 0, x :: xs, y :: ys, z, h => by
    simp [zipD] at h
    exact ⟨x, y, rfl, rfl, h.symm⟩
  | i + 1, x :: xs, y :: ys, z, h => by
    rw [zipD, List.getElem?_cons_succ] at h
    exact zip_get i xs ys z h
def twoD (f : D → Option (List D)) (da db : TDE) : TDI := fun env P => da env fun x => db env fun y => ob (f x) fun xs => ob (f y) fun ys => P (zipD xs ys)
def iZp (da db : TDE) : TDI := fun env P => twoD lstD da db env P ∨ twoD tupD da db env P
theorem zip_new {N' : Addr → Prop} {H' H2 : Hp} {T : Addr} {v w : V} {x y : D} (al : ∀ a, N' a → ∃ o, H' a = some o) (hT : H' T = none) (h2 : H2 = upd H' T (.tup [v, w])) (dv : Dd F.K N' F.W H' v x) (dw : Dd F.K N' F.W H' w y) :
    Stn H' H2 ∧ Dd F.K N' F.W H2 (.ref T) (.tup [x, y]) := by
  subst h2
  have kp : ∀ a o, H' a = some o → upd H' T (.tup [v, w]) a = some o := fun a o h => by rw [upd_ne (ne_of_none h hT)]; exact h
  refine ⟨.new hT True.intro, .tup upd_same (fun z => ?_) (.cons (dv.keep (fun a u _ h => kp a u h) fun _ z => z) (.cons (dw.keep (fun a u _ h => kp a u h) fun _ z => z) .nil))⟩
  obtain ⟨o, ho⟩ := al T z
  rw [hT] at ho
  cases ho
theorem it_zipL {Rel : (Addr → Prop) → Hp → Prop} {t u : Addr} {vs ws : List V} {xs ys : List D} (h : ∀ N' H', Rel N' H' → (H' t = some (.lst vs) ∧ DdAll F.K N' F.W H' vs xs) ∧ H' u = some (.lst ws) ∧ DdAll F.K N' F.W H' ws ys) : ItOk F Rel (Itz F.K t u) (zipD xs ys) := fun N' H' r al i => by
  obtain ⟨⟨h1, h2⟩, g1, g2⟩ := h N' H' r
  refine ⟨fun hi => ⟨vs, ws, SqL.of h1, SqL.of g1, ?_⟩, fun x hx => ?_⟩
  · rw [h2.len, g2.len]
    rw [zip_len] at hi
    omega
  · obtain ⟨x1, x2, e1, e2, rfl⟩ := zip_get i xs ys x hx
    obtain ⟨v, hv, dv⟩ := h2.get e1
    obtain ⟨w, hw, dw⟩ := g2.get e2
    refine ⟨⟨vs, ws, v, w, SqL.of h1, SqL.of g1, hv, hw⟩, fun w' H2 hy => ?_⟩
    obtain ⟨T, z1, z2, rfl, hT, h2', hz1, hz2⟩ := hy
    have q1 := hz1 vs (SqL.of h1)
    have q2 := hz2 ws (SqL.of g1)
    rw [hv] at q1
    rw [hw] at q2
    cases q1
    cases q2
    exact zip_new al hT h2' dv dw
theorem it_zipT {Rel : (Addr → Prop) → Hp → Prop} {t u : Addr} {vs ws : List V} {xs ys : List D} (h : ∀ N' H', Rel N' H' → (SqT F.K H' t vs ∧ DdAll F.K N' F.W H' vs xs) ∧ SqT F.K H' u ws ∧ DdAll F.K N' F.W H' ws ys) : ItOk F Rel (RZ.ItzT F.K t u) (zipD xs ys) := fun N' H' r al i => by
  obtain ⟨⟨h1, h2⟩, g1, g2⟩ := h N' H' r
  refine ⟨fun hi => ⟨vs, ws, h1, g1, ?_⟩, fun x hx => ?_⟩
  · rw [h2.len, g2.len]
    rw [zip_len] at hi
    omega
  · obtain ⟨x1, x2, e1, e2, rfl⟩ := zip_get i xs ys x hx
    obtain ⟨v, hv, dv⟩ := h2.get e1
    obtain ⟨w, hw, dw⟩ := g2.get e2
    refine ⟨⟨vs, ws, v, w, h1, g1, hv, hw⟩, fun w' H2 hy => ?_⟩
    obtain ⟨T, z1, z2, rfl, hT, h2', hz1, hz2⟩ := hy
    have q1 := hz1 vs h1
    have q2 := hz2 ws g1
    rw [hv] at q1
    rw [hw] at q2
    cases q1
    cases q2
    exact zip_new al hT h2' dv dw
theorem zip_I (hK : F.K = X.K) : ∀ σ H R, lI F (iZp da db) σ H R → RZ.iZipA X.K (tCons (lC F da) (tCons (lC F db) tNil)) σ H R := fun σ H R ⟨env, L, P, A, pp, q⟩ => by
  rw [← hK]
  rcases pp with pp | pp
  · refine ⟨env, L, _, A, pp, fun x v H1 px k1 o1 d1 => ⟨env, L, _, A.step k1 o1, px, fun y w H2 py k2 o2 d2 => ?_⟩⟩
    obtain ⟨xs, e, py⟩ := ob_elim py
    obtain ⟨ys, e', py⟩ := ob_elim py
    have := lstD_e e
    subst this
    have := lstD_e e'
    subst this
    obtain ⟨t, vs, rfl, h1, h2, h3⟩ := dd_lstE ((A.step k1 o1).kd k2 d1)
    obtain ⟨u, ws, rfl, g1, g2, g3⟩ := dd_lstE d2
    exact ⟨t, u, vs, ws, rfl, .inl ⟨SqL.of h1, SqL.of g1, q _ _ H2 py (k1.trans k2) o2 (it_zipL fun N' H' r => ⟨⟨(r t _ h2 h1).2, h3.pres r⟩, (r u _ g2 g1).2, g3.pres r⟩)⟩⟩
  · refine ⟨env, L, _, A, pp, fun x v H1 px k1 o1 d1 => ⟨env, L, _, A.step k1 o1, px, fun y w H2 py k2 o2 d2 => ?_⟩⟩
    obtain ⟨xs, e, py⟩ := ob_elim py
    obtain ⟨ys, e', py⟩ := ob_elim py
    obtain ⟨t, vs, rfl, h1, h2⟩ := seqT_keep (N' := fun _ => False) (H' := H2) e ((A.step k1 o1).kd k2 d1)
    obtain ⟨u, ws, rfl, g1, g2⟩ := seqT_keep (N' := fun _ => False) (H' := H2) e' d2
    exact ⟨t, u, vs, ws, rfl, .inr ⟨h1, g1, q _ _ H2 py (k1.trans k2) o2 (it_zipT fun N' H' r => ⟨h2 N' H' r, g2 N' H' r⟩)⟩⟩
theorem di_zip {elts : List Expr} {kk : Nat} {tpos : Pos} (hg : Gl X "zip") (hm : X.mg "zip" = none) (ha : PE X a (lC F da)) (hb : PE X b (lC F db)) (hs : starEach [a, b] X.env = (false, eval a X.env) :: starEach [b] X.env := by rfl) (hs2 : starEach [b] X.env = (false, eval b X.env) :: starEach [] X.env := by rfl) (hpl : (backTo pos (starEach [b] X.env)).any (·.1) = false := by rfl) (hK : F.K = X.K := by rfl) :
    PI X (.Tuple elts kk tpos) (.Call (.Name "zip" p) [a, b] [] pos) (lI F (iZp da db)) := PI.mono (RZ.pi_zipA hg hm (pa_cons ha (pa_cons hb pa_nil hs2) hs) hs hpl) (zip_I hK)
end
end DL
namespace DL
open PySem PySem.Spec PyProof.Rows L2 RK
def isTxt (z : Str) : Value → Bool
  | .str x _ => x == z
  | _ => false
theorem isTxt_gives {z : Str} {t : Tok} : ∀ {us : List Value} {ys : List Str}, Vals (ys.map V.str) us → ∀ y ∈ us, MeetsSeq.EqGives y (.str z t) (isTxt z y)
  | [], _, _, y, h => by cases h
  | u :: us, [], r, y, h => by cases r
  | u :: us, x :: ys, r, y, h => by
    cases r with
    | cons r1 r2 =>
      obtain ⟨tx, rfl⟩ := r1
      rcases List.mem_cons.mp h with rfl | h
      · exact eqGives_str x z tx t
      · exact isTxt_gives r2 y h
theorem isTxt_at {z : Str} {us : List Value} {ys : List Str} (r : Vals (ys.map V.str) us) {i : Nat} (h : i < us.length) {y : Str} (hy : ys[i]? = some y) : isTxt z us[i] = (y == z) := by
  obtain ⟨u, hu, ru⟩ := r.get (show (ys.map V.str)[i]? = some (.str y) by rw [List.getElem?_map, hy]; rfl)
  rw [List.getElem?_eq_getElem h] at hu
  rw [Option.some.inj hu]
  obtain ⟨t, rfl⟩ := ru
  rfl
theorem first_txt : ∀ {ys : List Str} {z : Str}, z ∈ ys → ∃ j, ys[j]? = some z ∧ (∀ (m : Nat) (y : Str), m < j → ys[m]? = some y → y ≠ z) ∧ ys.eraseIdx j = ys.erase z
  | [], _, h => by cases h
  | x :: r, z, h => by
    by_cases e : x = z
    · subst e
      exact ⟨0, rfl, fun m y hm => absurd hm (Nat.not_lt_zero _), by simp⟩
    · obtain ⟨j, h1, h2, h3⟩ := first_txt ((List.mem_cons.mp h).resolve_left fun q => e q.symm)
      refine ⟨j + 1, h1, fun m y hm hy => ?_, ?_⟩
      · cases m with
        | zero =>
          have : x = y := Option.some.inj hy
          rw [← this]
          exact e
        | succ m => exact h2 m y (by omega) hy
      · rw [List.eraseIdx_cons_succ, h3, List.erase_cons_tail (by simpa using e)]
theorem erase_mapS : ∀ (l : List Str) (j : Nat), (l.map V.str).eraseIdx j = (l.eraseIdx j).map V.str
  | [], j => by simp
  | a :: r, 0 => by simp
  | a :: r, j + 1 => by
    have := erase_mapS r j
    simp [this]
section
variable {X : Cx} {F : Fx} {e o a b : Expr} {d : TDE} {pos apos cpos : Pos} {i : Nat}
def rRemT : V → List V → Hp → VK → Prop := fun x xs H Q => ∃ (l : Addr) (ys : List Str) (z : Str), x = .ref l ∧ xs = [.str z] ∧ H l = some (.lst (ys.map V.str)) ∧ z ∈ ys ∧ Q .non (upd H l (.lst ((ys.erase z).map V.str)))
theorem mt_remT : MtR X "list.remove" rRemT := by
  intro pins s σ H x xs v us Q I rx rxs h
  obtain ⟨l, ys, z, rfl, rfl, hH, hz, q⟩ := h
  cases rx
  obtain ⟨u, rfl, ru⟩ := rxs.one
  obtain ⟨t, rfl⟩ := ru
  obtain ⟨zz, its, n, r, hl, e⟩ := I.lstM hH
  rw [List.length_map] at hl zz
  obtain ⟨j, j1, j2, j3⟩ := first_txt hz
  have jn : j < ys.length := (List.getElem?_eq_some_iff.mp j1).1
  have jl : j < its.length := by omega
  have r2 : Vals ((ys.erase z).map V.str) (its.eraseIdx j) := by
    have w := r.eraseIdx j
    rw [erase_mapS, j3] at w
    exact w
  have hit : isTxt z its.toArray[j] = true := by
    show isTxt z its[j] = true
    rw [isTxt_at r jl j1]
    exact beq_self_eq_true z
  have hno : ∀ m (hm : m < its.toArray.size), m < j → isTxt z its.toArray[m] = false := fun m hm mj => by
    have hm2 : m < its.length := by simpa using hm
    have hm3 : m < ys.length := by omega
    show isTxt z its[m] = false
    rw [isTxt_at r hm2 (List.getElem?_eq_getElem hm3)]
    exact beq_eq_false_iff_ne.mpr (j2 m _ mj (List.getElem?_eq_getElem hm3))
  refine call_meets PySem.F.slot_list_remove ⟨_, e, rfl⟩ PySem.F.entry_list_remove (PySem.F.args_list_remove_2 _ _)
    (MeetsSeq.list_remove l its.toArray n (.str z t) (isTxt z) (fun y hy => isTxt_gives r y (by simpa using hy)) j (by rw [List.size_toArray]; exact jl) hit hno (by rw [List.size_toArray]; omega)) ⟨e, ?_⟩
  refine ⟨.non, _, I.lset (its' := its.eraseIdx j) (t' := s.toks) hH e ?_ r2 ?_, rfl, q⟩
  · exact List.eraseIdxIfInBounds_toArray ..
  · have := List.length_erase_le (a := z) (l := ys)
    rw [List.length_map]
    omega
def sRem (i : Nat) (d : TDE) : TDS := fun P env => ob (owAt env i) fun xs => d env fun x => match x with | .str z => ∃ zs, strsD xs = some zs ∧ z ∈ zs ∧ P.nx (env.set i (.ow ((zs.erase z).map D.str))) | _ => False
theorem ds_rem (ho : PE X o (tVar i)) (he : PE X e (lC F d)) (hbase : attributeBase o "remove" X.env (eval o X.env) = eval o X.env := by rfl)
    (hfew : ((backTo cpos (starEach [e] X.env)).all (fun x => !x.1) && (backToKw cpos (keywordEach [] X.env)).all (fun x => x.1.isSome) && decide (([e] : List Expr).length + ([] : List Keyword).length + (if ([] : List Keyword).isEmpty then 0 else 1) < 30)) = true := by rfl)
    (hline : (apos.endLine == cpos.line) = true := by rfl) (hs : starEach [e] X.env = (false, eval e X.env) :: starEach [] X.env := by rfl) (hplain : (backTo cpos (starEach [] X.env)).any (·.1) = false := by rfl)
    (hsw : swapsWith (.Call (.Attribute o "remove" apos) [e] [] cpos) none pos.line X.env = pure false := by rfl) :
    PS X (.Expr (.Call (.Attribute o "remove" apos) [e] [] cpos) pos) (lS F (sRem i d)) := PS.mono (ps_expr (pe_bm PySem.F.plainAttrs_list PySem.F.slot_list_remove PySem.F.type_list_remove mt_remT ho (pa_cons he pa_nil hs) hbase hfew hline hs hplain) hsw) fun E σ H ⟨env, L, P, A, pp, hn, _⟩ => by
  obtain ⟨xs, h, pp⟩ := ob_elim pp
  obtain ⟨t, vs, hs, ha, hv, hd⟩ := ow_get A h
  refine ⟨_, hs, .inl ⟨rfl, vs, SqL.of hv⟩, env, L, _, A, pp, fun x v H1 px k1 o1 d1 => ?_⟩
  cases x with
  | str z =>
    obtain ⟨zs, hz, mz, px⟩ := px
    have A1 := A.step k1 o1
    obtain ⟨a2, vs2, hs2, ha2, hv2, hd2⟩ := ow_get A1 h
    rw [hs] at hs2
    cases hs2
    have e1 := dd_strE d1
    subst e1
    have e2 := strs_v hd2 hz
    obtain ⟨B, pr⟩ := ow_put A1 h hs ha2 (dd_strs (zs.erase z))
    exact ⟨t, zs, z, rfl, rfl, by rw [hv2, e2], mz, hn _ _ _ _ px B ((k1.pres A).trans pr)⟩
  | _ => exact px.elim
end
end DL
namespace DL
open PySem PySem.Spec PyProof.Rows L2 RK
section
variable {X : Cx}
abbrev oneGen (tg iter : Expr) (ifs : List Expr) : List Comprehension := [⟨tg, iter, ifs, 0⟩]
theorem ps_setDc {i : Nat} {x : Str} {px ps cp : Pos} {kx vx tg iter : Expr} {ifs : List Expr} {sco : Scope} {own : List (Str × Nat)} {wi : TI} {g : TG} {tt : TT} {tk tv : TE} (calm : X.calm = true) (nd : X.N.Nodup) (at_ : X.N[i]? = some x) (loc : X.env.scope.names.lookup x = some .local)
    (sw : swapsWith (.DictComp kx vx (oneGen tg iter ifs) sco cp) (some (.Name x px)) ps.line X.env = pure true) (pi : PI X tg iter wi) (blk : BlkOk X.N X.env.scope sco own)
    (pg : ∀ (s : Shared) (H : Hp) (C : Addr) (cl : List (Str × Addr)) (fp : List Addr), PG (X.blk s H sco (compEnvC sco cl C X.env) fp) tg g)
    (pt : ∀ (s : Shared) (H : Hp) (C : Addr) (cl : List (Str × Addr)) (fp : List Addr), PTs (X.blk s H sco (compEnvC sco cl C X.env) fp) ifs tt)
    (pk : ∀ (s : Shared) (H : Hp) (C : Addr) (cl : List (Str × Addr)) (fp : List Addr), PE (X.blk s H sco (compEnvC sco cl C X.env) fp) kx tk)
    (pv : ∀ (s : Shared) (H : Hp) (C : Addr) (cl : List (Str × Addr)) (fp : List Addr), PE (X.blk s H sco (compEnvC sco cl C X.env) fp) vx tv) (fs : ∀ z, foldedSetIterable iter X.env z = pure z := by intro _; rfl) :
    PS X (.Assign [.Name x px] (.DictComp kx vx (oneGen tg iter ifs) sco cp) ps) (tAsg (tDc wi g tt tk tv (own.map (·.2))) (gName i)) := ⟨fun pins s σ H D I h => by
  rw [exec_Assign_Name_used _ _ _ _ sw]
  refine wpAny_bind (wpAny_standAt (wpAny_bind ?_))
  show wpAny _ X.A (do let _ ← comprehension (.DictComp kx vx (oneGen tg iter ifs) sco cp) sco X.env (firstIterPos (oneGen tg iter ifs) cp) newDict false (eval iter X.env) (some (assign (.Name x px) X.env))) _ _ s
  have q0 : tDc wi g tt tk tv (own.map (·.2)) σ H fun v H1 => gName i v σ H1 D.nx := h
  refine wpAny_bind (thn (dc_core (Qf := fun _ s' => L2.SP X pins D .next s') calm nd I pi blk pg pt pk pv fs q0 fun Dn C s1 m H1 I1 q1 ns fp => ?_) fun _ s1 q1 => wpAny_pure (wpAny_pure q1))
  show wpAny _ _ (assign (.Name x px) X.env (.ref Dn)) _ _ _
  refine wpAny_assign_Name (store_ok2 (v := V.ref Dn) I1 nd at_ (.inl loc) rfl (fun s2 I2 st => ?_) (.inr loc))
  obtain ⟨c, sb, hc⟩ := st
  have ne : C ≠ c := by
    rcases hc with z | z
    · rw [z]; exact fp.2.1
    · exact fun e => fp.2.2.2.2.1 x c z e.symm
  exact ⟨m, ns.sameBut sb ne, fun h3 sb3 => ⟨_, H1, I2.turned (t' := s2.toks) (fun b o hb e => (sb3.2 b hb).trans e) fp.1 fp.2.1 fp.2.2.2.1 fp.2.2.2.2.1 fp.2.2.2.2.2, q1⟩⟩⟩
theorem swD_true {kx vx : Expr} {gs : List Comprehension} {sco : Scope} {cp px : Pos} {x : Str} {l : Nat} {env : Env} (fn : env.scope.kind = .function) (loc : env.scope.names.lookup x = some .local) (ln : (px.line == cp.line) = true)
    (no : (sco.names.any fun (n, k) => n == x && (k == .local || k == .cell)) = false) : swapsWith (.DictComp kx vx gs sco cp) (some (.Name x px)) l env = pure true := by
  have k1 : env.kindOf x = some .local := loc
  have k2 : env.blockKind = .function := by
    unfold Env.blockKind
    rw [fn]
    rfl
  unfold swapsWith
  simp only [k2, k1, no, Expr.pos, ln]
  rfl
end
end DL
namespace DL
open PySem PySem.Spec PyProof.Rows L2 RK
section
variable {X : Cx} {F : Fx} {e a b c o : Expr} {es : List Expr} {d da db dc : TDE} {ds : TDA} {pos p apos : Pos}
end
end DL
namespace DL
open PySem PySem.Spec PyProof.Rows L2 RK
def bIsB (neg : Bool) : B2
  | .bl a, .bl b => some (.bl (neg ^^ decide (a = b)))
  | _, _ => none
section
variable {X : Cx} {F : Fx} {e a b c o : Expr} {es : List Expr} {d da db dc : TDE} {ds : TDA} {pos p apos : Pos}
theorem isNotB_ok : Op2 F (fun x y H Q => ∃ a b, x = .bl a ∧ y = .bl b ∧ Q (.bl (!decide (a = b))) H) (bIsB true) := fun A bx byy e Q q => by
  rename_i dx dy z
  cases dx <;> try cases e
  cases dy <;> try cases e
  exact ⟨_, _, bw_bl bx, bw_bl byy, by simpa using q (.bl _) _ (.refl _ _) A.ok (.bl _)⟩
theorem dt_isnotB (ha : PE X a (lB F da)) (hb : PE X b (lB F db)) : PT X (.Compare a [.IsNot] [b] pos) (lT F (dT (dO2 (bIsB true) da db))) := dt_cmp isNotB_ok op_isnot_bl ha hb (nomark _)
end
section
variable {X : Cx} {F : Fx} {e : Expr} {d : TDE} {pos p : Pos} {k : Nat}
end
end DL
namespace RK
open PySem PySem.Spec PyProof.Rows L2
def metK (val : Nat → Key) (i : Nat) (k : Key) : Bool := (List.range i).any fun j => decide (val j = k)
def cntK (val : Nat → Key) : Nat → Nat
  | 0 => 0
  | i + 1 => if metK val i (val i) = true then cntK val i else cntK val i + 1
theorem cntK_le (val : Nat → Key) : ∀ i, cntK val i ≤ i
  | 0 => Nat.le_refl _
  | i + 1 => by
    have := cntK_le val i
    rw [cntK]
    split <;> omega
theorem metK_succ (val : Nat → Key) (i : Nat) (k : Key) : metK val (i + 1) k = (metK val i k || decide (k = val i)) := by
  unfold metK
  rw [List.range_succ, List.any_append, List.any_cons, List.any_nil, Bool.or_false]
  congr 1
  exact decide_eq_decide.mpr eq_comm
section
variable {prog : Program} {w : World} {A : Around} {R : Result → Shared → Prop} {I S : Addr} {fp wr : List Addr} {G : Array GenState → Array GenState → Prop} {n : Nat} {P : Nat → Value → Prop} {St : Nat → Shared → Prop}
theorem keep_set {h z : Heap} {S' : Key → Bool} {c : Nat} (q : h.SetOf (mixKind prog w) S S' c) (k : ∀ o, h.get? S = some o → z.get? S = some o) : z.SetOf (mixKind prog w) S S' c := by
  obtain ⟨o, es, ep, t, ho, r⟩ := q
  exact ⟨o, es, ep, t, k o ho, r⟩
theorem set_go (W : WalksS prog w A.in1 I fp wr G n P St) (out : S ∉ fp) {val : Nat → Key} (hv : ∀ i v, P i v → (mixKind prog w).is (val i) v = true ∧ v.scannable = true) (room : n + 1 < scanBound) :
    ∀ (m i : Nat) (s : Shared), n = i + m → St i s → s.heap.SetOf (mixKind prog w) S (metK val i) (cntK val i) → (∀ z, Moved (S :: wr) G s z → z.heap.SetOf (mixKind prog w) S (metK val n) (cntK val n) → R (.ok (.ret .none)) z) →
      codeAny (model prog w) A (.builtin "set.update.loop" ⟨[.ref S, .ref I], []⟩) R s := by
  have nw : S ∉ wr := fun z => out (W.sub _ z)
  have up : ∀ b ∈ wr, b ∈ S :: wr := fun b z => List.mem_cons_of_mem _ z
  intro m
  induction m with
  | zero =>
    intro i s e st q fin
    have e : n = i := by omega
    subst e
    refine codeAny_builtin (by exact F.entry_set_update_loop) ?_
    rw [Around.under_plainId (by exact F.plain_set_update_loop)]
    refine wpAny_bind (W.done s _ _ st fun z mv => wpAny_pure (fin z (mv.mono up) (keep_set q fun o ho => mv.heap S _ nw ho)))
  | succ m go =>
    intro i s e st q fin
    refine codeAny_builtin (by exact F.entry_set_update_loop) ?_
    rw [Around.under_plainId (by exact F.plain_set_update_loop)]
    refine wpAny_bind (W.item i s _ _ (by omega) st fun v z hP st2 mv => ?_)
    obtain ⟨hk, hs⟩ := hv i v hP
    have q2 := keep_set q (z := z.heap) fun o ho => mv.heap S _ nw ho
    refine wpAny_bind (wpAny_holding ?_)
    unfold setAdd
    refine wpAny_holding (wpAny_bind ((mixKind prog w).pyHash hk ?_))
    refine wpAny_setAddHashed_of (s := { z with toks := z.toks + 1 }) hk hs q2 (by have := cntK_le val i; omega) fun g sb q3 => ?_
    have q4 : g.SetOf (mixKind prog w) S (metK val (i + 1)) (cntK val (i + 1)) := by
      have e1 : (fun k => metK val i k || decide (k = val i)) = metK val (i + 1) := funext fun k => (metK_succ val i k).symm
      rw [e1] at q3
      rw [cntK]
      exact q3
    refine wpAny_pure ⟨plainId_quiet (by exact F.plain_set_update_loop) _, go (i + 1) _ (by omega) (W.frame _ z _ _ st2 (Nat.le_succ _) fun b hb o eb => ?_) q4 fun y my qy => fin y ?_ qy⟩
    · rw [sb.2 b fun x => out (x ▸ hb)]
      exact eb
    · refine Moved.trans W.gtrans ((mv.mono up).then_heap (Nat.le_succ _) fun b o hb eb => ?_) my
      rw [sb.2 b fun x => hb (x ▸ List.mem_cons_self)]
      exact eb
end
section
variable {prog : Program} {w : World} {A : Around} {E : Value → Shared → Prop} {s : Shared}
def newSet (led : Bool) : Obj := { cls := .type "set", dict := none, data := .set #[] 0 (.fresh 0 0 led) }
theorem set_made {x : Value} {Q : Value → Shared → Prop} (K : Shared → Prop) (fin : ∀ z, K z → Q (.ref s.heap.objs.size) z)
    (go : ∀ led : Bool, wpAny (model prog w) A.in1.in1 (Builtin.«set.__init__» ⟨[.ref s.heap.objs.size, x], []⟩) (fun f z => match f with | .done f => wants (fun r y => r = Value.none ∧ K y) E (.ok f) z | .again c => c.quiet = true ∧ codeAny (model prog w) A.in1 c (wants (fun r y => r = Value.none ∧ K y) E) z) (fun e z => wants (fun r y => r = Value.none ∧ K y) E (.error e) z) { s with heap := s.heap.push (newSet led) }) :
    wpAny (model prog w) A (call (.type "set") [x]) Q E s := by
  have a1 := PySem.F.called_set.made
  have a2 := PySem.F.called_set.sub
  obtain ⟨c, tl, a3⟩ := PySem.F.called_set.mro
  refine wpAny_call (codeAny_of_tree (wpAny_pure ⟨Code.quiet_builtin _ (by decide +kernel), codeAny_builtin (by exact PySem.F.entry_type_call) ?_⟩))
  rw [Around.under_plain (weight_type_call_type "set" [x] []) rfl]
  have a4 := PySem.F.called_set.notType
  have a5 := PySem.F.called_set.canCreate
  have a6 := PySem.F.typeCall_set_1 x
  repeat (any_goals (first | assumption | wp_step))
  refine codeAny_mono (code_set_new_1 x (E := E) (Q₁ := fun v z => v = .ref s.heap.objs.size ∧ ∃ led : Bool, z = { s with heap := s.heap.push (newSet led) }) fun led => ⟨rfl, led, rfl⟩) fun r z hr => ?_
  cases r with
  | error e => exact hr
  | ok f =>
    cases f with
    | ret v =>
      obtain ⟨rfl, led, rfl⟩ := hr
      have b1 : (s.heap.push (newSet led)).get? s.heap.objs.size = some (newSet led) := Heap.get?_push_size _ rfl
      have b2 : Shared.TypeIs { s with heap := s.heap.push (newSet led) } (.ref s.heap.objs.size) "set" := ⟨_, b1, rfl⟩
      have b3 := PySem.F.called_set.init.lookup
      have b4 := PySem.F.called_set.init.bind (.ref s.heap.objs.size)
      repeat (any_goals (first | assumption | wp_step))
      refine codeAny_mono (codeAny_call_builtin (R := wants (fun r y => r = .none ∧ K y) E) PySem.F.called_set.init.plain PySem.F.entry_set_init (check_set_init_1 b2 ?_)) fun r y hy => ?_
      · exact go led
      · cases r with
        | error e => exact hy
        | ok f =>
          cases f with
          | ret v =>
            obtain ⟨rfl, ky⟩ := hy
            repeat (any_goals (first | assumption | wp_step))
            exact fin _ ky
          | _ => exact hy.elim
    | _ => exact hr.elim
def SetMade (prog : Program) (w : World) (s : Shared) (val : Nat → Key) (n : Nat) (z : Shared) : Prop :=
  ∃ g tk, z = { s with heap := g, toks := tk } ∧ g.SetOf (mixKind prog w) s.heap.objs.size (metK val n) (cntK val n) ∧ ∀ b o, s.heap.get? b = some o → g.get? b = some o
theorem fresh_set (led : Bool) {h : Heap} {a : Addr} (q : h.get? a = some (newSet led)) (val : Nat → Key) : h.SetOf (mixKind prog w) a (metK val 0) (cntK val 0) := by
  exact ⟨_, #[], 0, _, q, ⟨rfl, rfl, rfl⟩, rfl, fun e he => (by simp at he), fun k => (by simp [metK]), (by decide), (by rfl), rfl⟩
theorem set_end {wr : List Addr} {val : Nat → Key} {n : Nat} {led : Bool} {ob : Obj} {z : Shared} (mv : Moved (s.heap.objs.size :: [(s.heap.push (newSet led)).objs.size]) (fun a b => b = a) { s with heap := (s.heap.push (newSet led)).push ob } z) (q : z.heap.SetOf (mixKind prog w) s.heap.objs.size (metK val n) (cntK val n)) : SetMade prog w s val n z := by
  obtain ⟨g, a, b, c, d⟩ := z
  obtain rfl : a = s.gens := mv.gens
  obtain rfl : b = s.drawn := mv.drawn
  obtain rfl : d = s.os := mv.os
  refine ⟨g, c, rfl, q, fun x o e => mv.heap x o (fun hx => ?_) (Heap.get?_push_of_some _ (Heap.get?_push_of_some _ e))⟩
  have lt := Heap.lt_size e
  rw [Heap.size_push] at hx
  simp only [List.mem_cons, List.not_mem_nil, or_false] at hx
  rcases hx with hx | hx
  · exact absurd lt (hx ▸ Nat.lt_irrefl _)
  · exact absurd lt (hx ▸ Nat.not_lt.mpr (Nat.le_succ _))
theorem apart (led : Bool) {l : Addr} (lt : l < s.heap.objs.size) : s.heap.objs.size ∉ [(s.heap.push (newSet led)).objs.size, l] := fun z => by
  rw [Heap.size_push] at z
  rcases List.mem_cons.mp z with z | z
  · exact Nat.ne_of_lt (Nat.lt_succ_self _) z
  · exact Nat.ne_of_gt lt (List.mem_singleton.mp z)
theorem set_list {l : Addr} {items : Array Value} {val : Nat → Key} {Q : Value → Shared → Prop} (hh : A.handled = none) (hl : s.heap.IsList l items) (hv : ∀ i v, items[i]? = some v → (mixKind prog w).is (val i) v = true ∧ v.scannable = true) (room : items.size + 1 < scanBound)
    (h : ∀ z, SetMade prog w s val items.size z → Q (.ref s.heap.objs.size) z) : wpAny (model prog w) A (call (.type "set") [.ref l]) Q E s := by
  refine set_made (SetMade prog w s val items.size) h fun led => ?_
  obtain ⟨⟨k1, k2, k3, k4⟩, c1, c2, c4, c5⟩ := hl
  simp only at c2 c5
  subst c2 c5
  have d1 : (s.heap.push (newSet led)).get? l = some { cls := .type "list", dict := k2, data := .seq items c4, slots := k4 } := Heap.get?_push_of_some _ c1
  have d2 := PySem.F.sub_list_set
  have d3 := PySem.F.sub_list_frozenset
  have d4 : (Value.type "list" == Value.type "dict") = false := by decide
  have d5 : (s.heap.push (newSet led)).IsList l items := ⟨_, d1, rfl, c4, rfl⟩
  unfold Builtin.«set.__init__» noKeywords Builtin.Frozenset.updateFrom
  generalize hPI : pyIter = PI
  wp_walk
  subst hPI
  have lt : l < s.heap.objs.size := Heap.lt_size c1
  refine wpAny_pyIter_list d5 (wpAny_bind (wpAny_runValue (set_go ((Walks.list (by simp [hh]) _ l (by rw [Heap.size_push]; exact Nat.ne_of_lt (Nat.lt_succ_of_lt lt)) items).toS) (apart led lt) hv room items.size 0 _ (by omega) ⟨⟨_, Heap.get?_push_size _ rfl, rfl, rfl⟩, d5.push _⟩ ?_ fun z mv q => ?_)))
  · exact fresh_set led (Heap.get?_push_of_some _ (Heap.get?_push_size _ rfl)) val
  · exact wpAny_pure (wpAny_pure ⟨rfl, set_end (wr := []) mv q⟩)
end
end RK
namespace PySem
namespace SplatX
open PySem.Spec PyProof.Rows
section
variable {prog : Program} {w : World} {K : Type} [DecidableEq K] {knd : KeyKind prog w K} {A : Around} {E : Value → Shared → Prop} {s : Shared}
end
end SplatX
end PySem
namespace RK
open PySem PySem.Spec PyProof.Rows L2
end RK
namespace DL
open PySem PySem.Spec PyProof.Rows L2 RK
section
variable {X : Cx} {F : Fx} {e a b c e1 e2 k0 : Expr} {es : List Expr} {d da db dc d1 d2 dk : TDE} {ds : TDA} {pos p p2 q0 : Pos}
end
end DL
namespace DL
open PySem PySem.Spec PyProof.Rows L2 RK
section
variable {X : Cx} {F : Fx}
end
end DL
namespace RK
open PySem PySem.Spec PyProof.Rows L2
section
variable {X : Cx} {pins : List (Addr × Obj)} {σ τ : L2.St} {s0 s : Shared} {H0 H : Hp} {sco : Scope} {own : List (Str × Nat)} {tg : Expr} {J : It} {fp : List Addr} {it : Addr} {tn : Nat → Heap → Prop} {i : Nat}
abbrev bEnv (X : Cx) (sco : Scope) (s0 : Shared) : Env := compEnvC sco (cellsFrom (s0.heap.objs.size + 1) sco.names (cloFrom X.env.cells sco.names [])) s0.heap.objs.size X.env
abbrev bCx (X : Cx) (sco : Scope) (fp : List Addr) (s0 : Shared) (H0 : Hp) : Cx := X.blk s0 H0 sco (bEnv X sco s0) fp
structure Outer (X : Cx) (pins : List (Addr × Obj)) (σ : L2.St) (s0 : Shared) (H0 : Hp) (fp : List Addr) : Prop where
  inv : Inv X pins σ H0 s0
  cells : ∀ b ∈ fp, FpOk X pins H0 b ∧ b < s0.heap.objs.size
structure Inner (X : Cx) (sco : Scope) (fp : List Addr) (s0 : Shared) (H0 : Hp) (tn : Nat → Heap → Prop) (τ : L2.St) (i : Nat) (H : Hp) (s : Shared) : Prop where
  inv : Inv (bCx X sco fp s0 H0) [] τ H s
  at_ : tn i s.heap
  out : ∀ b ∈ fp, H b = none
theorem Inner.cells (B : Inner X sco fp s0 H0 tn τ i H s) : ∀ b ∈ fp, FpOk (bCx X sco fp s0 H0) [] H b := fun b hb =>
  ⟨B.out b hb, (B.inv.ok.exf b hb).1, B.inv.ok.exfs b hb, .inl hb, (B.inv.ok.exf b hb).2, fun _ h => nomatch h⟩
theorem Outer.back (O : Outer X pins σ s0 H0 fp) (I : Inv (bCx X sco fp s0 H0) [] τ H s) : Inv X pins σ H s ∧ FpOk X pins H s0.heap.objs.size ∧ ∃ m, s.heap.Ns s0.heap.objs.size m :=
  ⟨O.inv.call' (ch := fp) I.os I.base I.hok I.bare fun b hb => let ⟨_, f1, _, f3, f4, f5⟩ := (O.cells b hb).1; ⟨f3, f1, f4, f5⟩, O.inv.fpOk (Nat.le_refl _) I.free, let ⟨m, h, _⟩ := I.loc; ⟨m, h⟩⟩
theorem Inner.stop (B : Inner X sco fp s0 H0 tn τ i H s) (O : Outer X pins σ s0 H0 fp) (calm : X.calm = true) (T : Turn X.prog X.w X.K tg J fp it tn) (e : J.stop i H) {E : Value → Shared → Prop} :
    wpAny (model X.prog X.w) X.A (pyNext (.ref it)) (fun r s1 => r = none ∧ Inv X pins σ H s1 ∧ FpOk X pins H s0.heap.objs.size ∧ ∃ m, s1.heap.Ns s0.heap.objs.size m) E s :=
  thn (T.done (bCx X sco fp s0 H0) rfl rfl rfl calm i [] s τ H E B.inv B.cells B.at_ e) fun _ _ h => ⟨h.1, O.back h.2⟩
theorem Inner.take (B : Inner X sco fp s0 H0 tn τ i H s) (calm : X.calm = true) (T : Turn X.prog X.w X.K tg J fp it tn) (e : J.go i H) {E : Value → Shared → Prop} :
    wpAny (model X.prog X.w) X.A (pyNext (.ref it)) (fun r s1 => ∃ u, r = some u ∧ wpAny (model X.prog X.w) X.A (letOwnedTupleGo tg (.ref it) u) (fun _ s2 =>
      ∃ x H2, RelV x u ∧ J.yld i H x H2 ∧ Inv (bCx X sco fp s0 H0) ([] ++ pinsAt fp s2.heap) τ H2 s2 ∧
        ∀ τ3 H3 s3, Inv (bCx X sco fp s0 H0) ([] ++ pinsAt fp s2.heap) τ3 H3 s3 → Inner X sco fp s0 H0 tn τ3 (i + 1) H3 s3) E s1) E s := by
  refine thn (T.item (bCx X sco fp s0 H0) rfl rfl rfl calm i [] s τ H E B.inv B.cells B.at_ e) fun r s1 ⟨u, hr, h⟩ => ⟨u, hr, thn h fun _ s2 ⟨x, H2, I2, rx, y, t2, n2⟩ => ?_⟩
  have B2 : Inner X sco fp s0 H0 tn τ (i + 1) H2 s2 := ⟨I2, t2, n2⟩
  refine ⟨x, H2, rx, y, I2.pinned B2.cells (T.obj _ _ t2), fun τ3 H3 s3 I3 => ?_⟩
  have pin : ∀ b ∈ fp, ∀ o, s2.heap.get? b = some o → s3.heap.get? b = some o ∧ H3 b = none := fun b hb o e =>
    let p := I3.pin (b, o) (List.mem_append_right _ (List.mem_append_right _ (mem_pinsAt hb e)))
    ⟨p.1, p.2.1⟩
  exact ⟨I3.unpinned, T.keep _ _ _ t2 fun b hb o e => (pin b hb o e).1, fun b hb => let ⟨o, e, _⟩ := T.obj _ _ t2 b hb; (pin b hb o e).2⟩
end
end RK
namespace RK
open PySem PySem.Spec PyProof.Rows L2
section
variable {prog : Program} {w : World} {A : Around} {R : Result → Shared → Prop} {s : Shared} {ev x0 l0 x1 l1 : Expr} {c0 c1 : List Expr} {sco : Scope} {pos : Pos} {it acc : Value} {env : Env}
abbrev sc2 (ev x0 l0 x1 l1 : Expr) (c0 c1 : List Expr) (sco : Scope) (pos : Pos) : Expr := .SetComp ev [⟨x0, l0, c0, 0⟩, ⟨x1, l1, c1, 0⟩] sco pos
theorem sc2_turn0 (ev x0 l0 x1 l1 : Expr) (c0 c1 : List Expr) (sco : Scope) (pos : Pos) (it acc : Value) (env : Env) :
    compTurn (sc2 ev x0 l0 x1 l1 c0 c1 sco pos) 0 it acc env = (do
      standAt l0.pos
      match ← pyNext it with
      | none => pure (.done .next)
      | some u =>
        letOwnedTupleGo x0 it u
        assign x0 env u
        let mut go := true
        for z in c0 do
          if go then go ← isTrue z env (eval z env)
        if go then
          let y ← eval l1 env
          standAt l1.pos
          let y ← foldedSetIterable l1 env y
          let _ ← runOwn (.compStart (sc2 ev x0 l0 x1 l1 c0 c1 sco pos) 1 (← holding [y] (pyIter y)) acc env) env
        again (.compLoop (sc2 ev x0 l0 x1 l1 c0 c1 sco pos) 0 it acc env)) := by rfl
theorem sc2_turn1 (ev x0 l0 x1 l1 : Expr) (c0 c1 : List Expr) (sco : Scope) (pos : Pos) (it acc : Value) (env : Env) :
    compTurn (sc2 ev x0 l0 x1 l1 c0 c1 sco pos) 1 it acc env = (do
      standAt l1.pos
      match ← pyNext it with
      | none => pure (.done .next)
      | some u =>
        letOwnedTupleGo x1 it u
        assign x1 env u
        let mut go := true
        for z in c1 do
          if go then go ← isTrue z env (eval z env)
        if go then
          (do let y ← eval ev env; standAt ev.pos; let _ ← call (.builtin "set.add") [acc, y])
        again (.compLoop (sc2 ev x0 l0 x1 l1 c0 c1 sco pos) 1 it acc env)) := by rfl
abbrev tstS (cs : List Expr) (env : Env) : Sem Bool := forIn cs true fun z g => if g = true then do let b ← isTrue z env (eval z env); pure (ForInStep.yield b) else pure (ForInStep.yield g)
abbrev nb (prog : Program) (w : World) (A : Around) (env : Env) (R : Result → Shared → Prop) : Value → Shared → Prop := notedBy (model prog w) A env fun e s' => R (.error e) s'
theorem sc2_loop0 (hs : ∀ x, foldedSetIterable l1 env x = pure x) (I : Nat → Shared → Prop)
    (turn : ∀ n s, I n s → wpAny (model prog w) A (pyNext it) (fun r s1 => match r with
      | none => R (.ok .next) s1
      | some u => wpAny (model prog w) A (letOwnedTupleGo x0 it u) (fun _ s2 => wpAny (model prog w) A (assign x0 env u) (fun _ s3 =>
          wpAny (model prog w) A (tstS c0 env) (fun b s4 => if b = true then wpAny (model prog w) A (eval l1 env) (fun y s5 => wpAny (model prog w) A (pyIter y) (fun it1 s6 =>
              codeAny (model prog w) A (.compStart (sc2 ev x0 l0 x1 l1 c0 c1 sco pos) 1 it1 acc env) (fun r s' => match r with | .ok _ => ∃ m, m < n ∧ I m s' | .error _ => False) s6) (nb prog w A env R) s5) (nb prog w A env R) s4
            else ∃ m, m < n ∧ I m s4) (nb prog w A env R) s3) (nb prog w A env R) s2) (nb prog w A env R) s1) (nb prog w A env R) s)
    (n : Nat) (h : I n s) : codeAny (model prog w) A (.compLoop (sc2 ev x0 l0 x1 l1 c0 c1 sco pos) 0 it acc env) R s := by
  refine codeAny_loop rfl I (fun n s hI => ?_) n h
  show wpAny _ A ((compTurn (sc2 ev x0 l0 x1 l1 c0 c1 sco pos) 0 it acc env).onRaise (fun x => do noteFrame x env; theTreesLotGoes x)) _ _ s
  refine wpAny_noted ?_
  rw [sc2_turn0]
  refine wpAny_bind (wpAny_standAt (wpAny_bind (wpAny_mono (turn n s hI) (fun r s1 h1 => ?_) fun _ _ q => q)))
  cases r with
  | none => exact wpAny_pure h1
  | some u =>
    refine wpAny_bind (wpAny_mono h1 (fun _ s2 h2 => wpAny_bind (wpAny_mono h2 (fun _ s3 h3 => wpAny_bind (wpAny_mono h3 (fun b s4 h4 => ?_) fun _ _ q => q)) fun _ _ q => q)) fun _ _ q => q)
    cases b with
    | false => exact wpAny_pure ⟨rfl, h4⟩
    | true =>
      refine wpAny_bind (wpAny_mono h4 (fun y s5 h5 => ?_) fun _ _ q => q)
      refine wpAny_bind (wpAny_standAt (wpAny_bind (wpAny_of_eq (hs y) (wpAny_bind (wpAny_holding (wpAny_mono h5 (fun it1 s6 h6 => ?_) fun _ _ q => q))))))
      refine wpAny_bind (wpAny_runOwn ?_)
      rw [Around.mark_none]
      refine codeAny_mono h6 fun r s' hr => ?_
      cases r with
      | ok f => first | exact wpAny_pure ⟨rfl, hr⟩ | exact wpAny_bind (wpAny_pure (wpAny_pure ⟨rfl, hr⟩))
      | error e => exact hr.elim
theorem sc2_loop1 (I : Nat → Shared → Prop)
    (turn : ∀ n s, I n s → wpAny (model prog w) A (pyNext it) (fun r s1 => match r with
      | none => R (.ok .next) s1
      | some u => wpAny (model prog w) A (letOwnedTupleGo x1 it u) (fun _ s2 => wpAny (model prog w) A (assign x1 env u) (fun _ s3 =>
          wpAny (model prog w) A (tstS c1 env) (fun b s4 => if b = true then wpAny (model prog w) A (eval ev env) (fun y s5 => wpAny (model prog w) A (call (.builtin "set.add") [acc, y]) (fun _ s6 => ∃ m, m < n ∧ I m s6) (nb prog w A env R) s5) (nb prog w A env R) s4
            else ∃ m, m < n ∧ I m s4) (nb prog w A env R) s3) (nb prog w A env R) s2) (nb prog w A env R) s1) (nb prog w A env R) s)
    (n : Nat) (h : I n s) : codeAny (model prog w) A (.compLoop (sc2 ev x0 l0 x1 l1 c0 c1 sco pos) 1 it acc env) R s := by
  refine codeAny_loop rfl I (fun n s hI => ?_) n h
  show wpAny _ A ((compTurn (sc2 ev x0 l0 x1 l1 c0 c1 sco pos) 1 it acc env).onRaise (fun x => do noteFrame x env; theTreesLotGoes x)) _ _ s
  refine wpAny_noted ?_
  rw [sc2_turn1]
  refine wpAny_bind (wpAny_standAt (wpAny_bind (wpAny_mono (turn n s hI) (fun r s1 h1 => ?_) fun _ _ q => q)))
  cases r with
  | none => exact wpAny_pure h1
  | some u =>
    refine wpAny_bind (wpAny_mono h1 (fun _ s2 h2 => wpAny_bind (wpAny_mono h2 (fun _ s3 h3 => wpAny_bind (wpAny_mono h3 (fun b s4 h4 => ?_) fun _ _ q => q)) fun _ _ q => q)) fun _ _ q => q)
    cases b with
    | false => exact wpAny_pure ⟨rfl, h4⟩
    | true => exact wpAny_bind (wpAny_bind (wpAny_mono h4 (fun y s5 h5 => wpAny_bind (wpAny_standAt (wpAny_bind (wpAny_mono h5 (fun _ s6 h6 => wpAny_pure (wpAny_pure ⟨rfl, h6⟩)) fun _ _ q => q)))) fun _ _ q => q))
theorem sc2_start1 (h0 : codeAny (model prog w) A (.compLoop (sc2 ev x0 l0 x1 l1 c0 c1 sco pos) 1 it acc env) R s)
    (h : wpAny (model prog w) A (pyIter it) (fun it' s' => codeAny (model prog w) A (.compLoop (sc2 ev x0 l0 x1 l1 c0 c1 sco pos) 1 it' acc env) R s') (nb prog w A env R) s) :
    codeAny (model prog w) A (.compStart (sc2 ev x0 l0 x1 l1 c0 c1 sco pos) 1 it acc env) R s := by
  refine codeAny_of_tree ?_
  show wpAny _ _ ((compStart (sc2 ev x0 l0 x1 l1 c0 c1 sco pos) 1 it acc env).onRaise (fun x => do noteFrame x env; standAt theWindowsPlace)) _ _ s
  refine wpAny_notedAt ?_
  unfold compStart
  show wpAny _ _ (ask >>= _) _ _ s
  refine wpAny_bind (wpAny_askSetting (wpAny_ite ?_))
  split
  · first | exact wpAny_bind (wpAny_pure (wpAny_pure ⟨rfl, h0⟩)) | exact wpAny_pure ⟨rfl, h0⟩
  · first
      | exact wpAny_bind (wpAny_rule (wpAny_bind (wpAny_standAt (wpAny_bind (wpAny_mono h (fun _ _ z => wpAny_pure ⟨rfl, z⟩) fun _ _ x => x)))))
      | (refine wpAny_bind (wpAny_rule ?_); show wpAny _ _ (standAt l1.pos >>= _) _ _ s; exact wpAny_bind (wpAny_standAt (wpAny_bind (wpAny_mono h (fun _ _ z => wpAny_pure ⟨rfl, z⟩) fun _ _ x => x))))
end
def Has (w : World) (h : Heap) (D : Addr) (acc : List Int) : Prop := ∃ n, SetR w h D (fun k => decide (k ∈ acc)) n ∧ n ≤ acc.length
theorem Has.keep {w : World} {h h' : Heap} {D : Addr} {acc : List Int} (R : Has w h D acc) (k : ∀ o, h.get? D = some o → h'.get? D = some o) : Has w h' D acc := let ⟨n, r, l⟩ := R; ⟨n, r.at k, l⟩
theorem Has.ob {w : World} {h : Heap} {D : Addr} {acc : List Int} (R : Has w h D acc) : ∃ o, h.get? D = some o ∧ ∀ v, o.data ≠ .cell v := by
  obtain ⟨n, ⟨o, es, ep, t, ho, _, hd, _⟩, _⟩ := R
  exact ⟨o, ho, fun v z => by rw [hd] at z; cases z⟩
section
variable {X Y : Cx} {pins ps : List (Addr × Obj)} {σ τ : L2.St} {s0 s : Shared} {H0 H : Hp} {sco : Scope} {own : List (Str × Nat)} {D : Addr} {acc : List Int} {fp : List Addr}
theorem has_add {A : Around} {E : Value → Shared → Prop} {k : Int} {tk : Tok} {Q : Value → Shared → Prop} (I : Inv Y ps τ H s) (f : FpOk Y ps H D) (R : Has Y.w s.heap D acc) (room : acc.length + 1 < scanBound)
    (q : ∀ s', Inv Y ps τ H s' → Has Y.w s'.heap D (acc ++ [k]) → (∀ b o, b ≠ D → s.heap.get? b = some o → s'.heap.get? b = some o) → Q .none s') : wpAny (model Y.prog Y.w) A (call (.builtin "set.add") [.ref D, .int k tk]) Q E s := by
  obtain ⟨n, r, l⟩ := R
  refine setR_add r (by omega) fun h' sb r' => q _ (I.turned (t' := s.toks + 1) (fun b o hb e => (sb.2 b hb).trans e) f.1 f.2.1 f.2.2.2.1 f.2.2.2.2.1 f.2.2.2.2.2) ⟨_, r'.congr fun j => ?_, ?_⟩ fun b o hb e => (sb.2 b hb).trans e
  · by_cases h1 : j ∈ acc <;> by_cases h2 : j = k <;> simp [h1, h2]
  · rw [List.length_append]
    show (if _ then n else n + 1) ≤ _
    split <;> simp <;> omega
theorem own_fp (I : Inv (bCx X sco fp s0 H0) ps τ H s) {b : Addr} (hb : b ∈ fp) (out : H b = none) (ne : ∀ p ∈ ps, p.1 ≠ b) : FpOk (bCx X sco fp s0 H0) ps H b :=
  ⟨out, (I.ok.exf b hb).1, I.ok.exfs b hb, .inl hb, (I.ok.exf b hb).2, fun p hp => ne p hp⟩
def tSS (wi : TI) (g : TG) (tt : TT) (wi1 : TI) (g1 : TG) (tt1 : TT) (te : TE) (vs vs1 : List Nat) : TE := fun σ H Q => wi σ H fun J H1 => ∃ W : Nat → Nat → List Int → Hp → Prop, (∃ m, W 0 m [] H1) ∧ ∀ i m acc H, W i m acc H →
  (J.stop i H ∧ acc.length < 64 ∧ ∀ (ns : List Int) (p : Addr), ns.Pairwise (· < ·) → (∀ k, k ∈ ns ↔ k ∈ acc) → H p = none → Q (.ref p) (upd H p (.lst (ns.map V.int)))) ∨
  (J.go i H ∧ ∃ N : List Int → Hp → Prop, (∀ ac H', N ac H' → ∃ m', m' < m ∧ W (i + 1) m' ac H') ∧ ∀ x H', J.yld i H x H' → g x (wipe σ vs) H' fun σ2 H2 => wipe σ2 vs = wipe σ vs ∧ tt σ2 H2 fun b H3 =>
    if b = true then wi1 σ2 H3 fun J1 H4 => ∃ W1 : Nat → Nat → List Int → Hp → Prop, (∃ k, W1 0 k acc H4) ∧ ∀ j k ac H, W1 j k ac H →
      (J1.stop j H ∧ N ac H) ∨ (J1.go j H ∧ ∃ N1 : List Int → Hp → Prop, (∀ a2 H', N1 a2 H' → ∃ k', k' < k ∧ W1 (j + 1) k' a2 H') ∧ ∀ x H', J1.yld j H x H' → g1 x (wipe σ2 vs1) H' fun σ3 H5 => wipe σ3 vs1 = wipe σ2 vs1 ∧ tt1 σ3 H5 fun b H6 =>
        if b = true then te σ3 H6 fun y H7 => ∃ k, y = .int k ∧ ac.length + 1 < scanBound ∧ N1 (ac ++ [k]) H7 else N1 ac H6)
    else N acc H3)
def SsEnd (X : Cx) (pins : List (Addr × Obj)) (σ : L2.St) (Q : VK) (v : Value) (s : Shared) : Prop :=
  ∃ D acc H, v = .ref D ∧ Inv X pins σ H s ∧ Has X.w s.heap D acc ∧ acc.length < 64 ∧ ∀ (ns : List Int) (p : Addr), ns.Pairwise (· < ·) → (∀ k, k ∈ ns ↔ k ∈ acc) → H p = none → Q (.ref p) (upd H p (.lst (ns.map V.int)))
theorem ss_comp {Q : VK} {ev x0 l0 x1 l1 : Expr} {c0 c1 : List Expr} {pos pos' : Pos} {vs1 : List Nat} {wi wi1 : TI} {g g1 : TG} {tt tt1 : TT} {te : TE} (calm : X.calm = true) (nd : X.N.Nodup) (I : Inv X pins σ H s) (pi : PI X x0 l0 wi) (blk : BlkOk X.N X.env.scope sco own) (hv : ∀ i ∈ vs1, i ∈ own.map (·.2))
    (pg : ∀ (s : Shared) (H : Hp) (C : Addr) (cl : List (Str × Addr)) (fp : List Addr), PG (X.blk s H sco (compEnvC sco cl C X.env) fp) x0 g)
    (pt : ∀ (s : Shared) (H : Hp) (C : Addr) (cl : List (Str × Addr)) (fp : List Addr), PTs (X.blk s H sco (compEnvC sco cl C X.env) fp) c0 tt)
    (pi1 : ∀ (s : Shared) (H : Hp) (C : Addr) (cl : List (Str × Addr)) (fp : List Addr), PI (X.blk s H sco (compEnvC sco cl C X.env) fp) x1 l1 wi1)
    (pg1 : ∀ (s : Shared) (H : Hp) (C : Addr) (cl : List (Str × Addr)) (fp : List Addr), PG (X.blk s H sco (compEnvC sco cl C X.env) fp) x1 g1)
    (pt1 : ∀ (s : Shared) (H : Hp) (C : Addr) (cl : List (Str × Addr)) (fp : List Addr), PTs (X.blk s H sco (compEnvC sco cl C X.env) fp) c1 tt1)
    (pe : ∀ (s : Shared) (H : Hp) (C : Addr) (cl : List (Str × Addr)) (fp : List Addr), PE (X.blk s H sco (compEnvC sco cl C X.env) fp) ev te)
    (fs : ∀ z, foldedSetIterable l0 X.env z = pure z) (fs1 : ∀ env z, foldedSetIterable l1 env z = pure z)
    (h : tSS wi g tt wi1 g1 tt1 te (own.map (·.2)) vs1 σ H Q) :
    wpAny (model X.prog X.w) X.A (comprehension (sc2 ev x0 l0 x1 l1 c0 c1 sco pos) sco X.env pos' (PySem.newSet (.type "set")) false (eval l0 X.env) none) (SsEnd X pins σ Q) X.xe s := by
  refine wpAny_comprehension_free (use := none) rfl fs (closure_ok fun y hy e => (blk.free y hy e).elim (fun z => I.ok.has _ (.inl z)) fun z => I.ok.has _ (.inr z)) blk.kind (fun y hy e => by rw [blk.uniq y hy, e]) (thn (pi.run pins s σ H _ I h) fun _ _ hx => thn hx fun _ s2 hy => ?_)
  obtain ⟨it, fp, tn, J, H2, rfl, I2, T, t2, f2, q⟩ := hy
  refine PpSet.newSet_ok (newEnv_comp ?_)
  obtain ⟨W, ⟨m0, w0⟩, turn⟩ := q
  have nD : H2 s2.heap.objs.size = none := I2.hok.fresh (Nat.le_refl _)
  have lt : ∀ b ∈ fp, b < s2.heap.objs.size := fun b hb => let ⟨_, e, _⟩ := T.obj _ _ t2 b hb; Heap.lt_size e
  have nDf : ∀ b ∈ fp, b ≠ s2.heap.objs.size := fun b hb => Nat.ne_of_lt (lt b hb)
  have I3 : Inv X pins σ H2 { s2 with heap := s2.heap.push { cls := .type "set", dict := none, data := .set #[] 0 (.fresh 0 0 (!X.w.params.followText "set-order")) } } := I2.turned (t' := s2.toks) (it := s2.heap.objs.size) (fun b o _ e => Heap.get?_push_of_some _ e) nD (I2.fpOk (Nat.le_refl _) nD).2.1 (I2.fpOk (Nat.le_refl _) nD).2.2.2.1 (I2.fpOk (Nat.le_refl _) nD).2.2.2.2.1 (I2.fpOk (Nat.le_refl _) nD).2.2.2.2.2
  have R3 : Has X.w (s2.heap.push { cls := .type "set", dict := none, data := .set #[] 0 (.fresh 0 0 (!X.w.params.followText "set-order")) }) s2.heap.objs.size [] := ⟨0, (setR_fresh X.w).congr fun k => by simp, Nat.le_refl _⟩
  have t3 : tn 0 (s2.heap.push { cls := .type "set", dict := none, data := .set #[] 0 (.fresh 0 0 (!X.w.params.followText "set-order")) }) := T.keep _ _ _ t2 fun b _ o e => Heap.get?_push_of_some _ e
  have O : Outer X pins σ { s2 with heap := s2.heap.push { cls := .type "set", dict := none, data := .set #[] 0 (.fresh 0 0 (!X.w.params.followText "set-order")) } } H2 (s2.heap.objs.size :: fp) := ⟨I3, fun b hb => by
    rcases List.mem_cons.mp hb with rfl | hb
    · exact ⟨I2.fpOk (Nat.le_refl _) nD, by rw [Heap.size_push]; exact Nat.lt_succ_self _⟩
    · exact ⟨f2 b hb, by rw [Heap.size_push]; exact Nat.lt_succ_of_lt (lt b hb)⟩⟩
  generalize hD : s2.heap.objs.size = D at *
  generalize hs3 : ({ s2 with heap := s2.heap.push { cls := .type "set", dict := none, data := .set #[] 0 (.fresh 0 0 (!X.w.params.followText "set-order")) } } : Shared) = s3 at *
  have h3 : s3.heap = s2.heap.push { cls := .type "set", dict := none, data := .set #[] 0 (.fresh 0 0 (!X.w.params.followText "set-order")) } := by rw [← hs3]
  rw [← h3] at R3 t3
  show codeAny _ _ (.compStart (sc2 ev x0 l0 x1 l1 c0 c1 sco pos) 0 (.ref it) (.ref D) (bEnv X sco s3)) (compPost (model X.prog X.w) X.A X.xe none (SsEnd X pins σ Q) (.ref D) s3.heap.objs.size) { s3 with heap := pushCells (s3.heap.push { cls := .type "dict", data := .dict #[] }) sco.names }
  have kp4 : ∀ b o, s3.heap.get? b = some o → (pushCells (s3.heap.push { cls := .type "dict", data := .dict #[] }) sco.names).get? b = some o := fun b o e => pushCells_keeps _ _ _ _ (Heap.get?_push_of_some _ e)
  have I4 := block_start O.inv blk nd O.cells
  have gg := pg s3 H2 s3.heap.objs.size (cellsFrom (s3.heap.objs.size + 1) sco.names (cloFrom X.env.cells sco.names [])) (D :: fp)
  have gt := pt s3 H2 s3.heap.objs.size (cellsFrom (s3.heap.objs.size + 1) sco.names (cloFrom X.env.cells sco.names [])) (D :: fp)
  have gi1 := pi1 s3 H2 s3.heap.objs.size (cellsFrom (s3.heap.objs.size + 1) sco.names (cloFrom X.env.cells sco.names [])) (D :: fp)
  have gg1 := pg1 s3 H2 s3.heap.objs.size (cellsFrom (s3.heap.objs.size + 1) sco.names (cloFrom X.env.cells sco.names [])) (D :: fp)
  have gt1 := pt1 s3 H2 s3.heap.objs.size (cellsFrom (s3.heap.objs.size + 1) sco.names (cloFrom X.env.cells sco.names [])) (D :: fp)
  have ge := pe s3 H2 s3.heap.objs.size (cellsFrom (s3.heap.objs.size + 1) sco.names (cloFrom X.env.cells sco.names [])) (D :: fp)
  have dm : D ∈ D :: fp := List.mem_cons_self
  have loop : codeAny (model X.prog X.w) X.A (.compLoop (sc2 ev x0 l0 x1 l1 c0 c1 sco pos) 0 (.ref it) (.ref D) (bEnv X sco s3)) (compPost (model X.prog X.w) X.A X.xe none (SsEnd X pins σ Q) (.ref D) s3.heap.objs.size) { s3 with heap := pushCells (s3.heap.push { cls := .type "dict", data := .dict #[] }) sco.names } := by
    refine sc2_loop0 (fs1 _) (fun n s' => ∃ i acc H', Inv (bCx X sco (D :: fp) s3 H2) [] (wipe σ (own.map (·.2))) H' s' ∧ tn i s'.heap ∧ (∀ b ∈ D :: fp, H' b = none) ∧ Has X.w s'.heap D acc ∧ W i n acc H') ?_ m0 ⟨0, [], H2, I4, T.keep _ _ _ t3 (fun b _ o e => kp4 b o e), fun b hb => (O.cells b hb).1.1, R3.keep (fun o e => kp4 D o e), w0⟩
    rintro n s5 ⟨i, acc, H5, I5, a5, n5, R5, w5⟩
    have fD : FpOk (bCx X sco (D :: fp) s3 H2) [] H5 D := own_fp I5 dm (n5 D dm) fun _ z => nomatch z
    have P5 : Inv (bCx X sco (D :: fp) s3 H2) ([] ++ pinsAt [D] s5.heap) (wipe σ (own.map (·.2))) H5 s5 := I5.pinned (fp := [D]) (fun b hb => by rw [List.mem_singleton.mp hb]; exact fD) fun b hb => by rw [List.mem_singleton.mp hb]; exact R5.ob
    have only : ∀ {h : Heap}, ∀ p ∈ ([] ++ pinsAt [D] h : List (Addr × Obj)), p.1 = D := fun p hp => List.mem_singleton.mp (of_pinsAt (show p ∈ pinsAt [D] _ from hp)).1
    have f5 : ∀ b ∈ fp, FpOk (bCx X sco (D :: fp) s3 H2) ([] ++ pinsAt [D] s5.heap) H5 b := fun b hb => own_fp P5 (List.mem_cons_of_mem _ hb) (n5 b (List.mem_cons_of_mem _ hb)) fun p hp => by rw [only p hp]; exact fun z => nDf b hb z.symm
    rcases turn i n acc H5 w5 with ⟨stop, qq⟩ | ⟨go, N, less, each⟩
    · refine thn (T.done (bCx X sco (D :: fp) s3 H2) rfl rfl rfl calm i _ s5 _ H5 _ P5 f5 a5 stop) fun r s6 ⟨hr, I6⟩ => ?_
      subst hr
      have R6 : Has X.w s6.heap D acc := R5.keep fun o e => (I6.pin (D, o) (List.mem_append_right _ (List.mem_append_right _ (mem_pinsAt List.mem_cons_self e)))).1
      obtain ⟨I7, f7, m, n7⟩ := O.back I6.unpinned
      have neC : D ≠ s3.heap.objs.size := by rw [h3, Heap.size_push, ← hD]; exact Nat.ne_of_lt (Nat.lt_succ_self _)
      exact ⟨m, n7, fun h'' sb => ⟨D, acc, H5, rfl, I7.turned (t' := s6.toks) (fun b o hb e => (sb.2 b hb).trans e) f7.1 f7.2.1 f7.2.2.2.1 f7.2.2.2.2.1 f7.2.2.2.2.2, R6.keep fun o e => (sb.2 D neC).trans e, qq⟩⟩
    · refine thn (T.item (bCx X sco (D :: fp) s3 H2) rfl rfl rfl calm i _ s5 _ H5 _ P5 f5 a5 go) fun r s6 ⟨u, hr, h6⟩ => ?_
      subst hr
      refine thn h6 fun _ s7 ⟨x, H7, I7, rx, y7, a7, n7⟩ => ?_
      have R7 : Has X.w s7.heap D acc := R5.keep fun o e => (I7.pin (D, o) (List.mem_append_right _ (List.mem_append_right _ (mem_pinsAt List.mem_cons_self e)))).1
      have nD7 : H7 D = none := by
        obtain ⟨o, e, _⟩ := R5.ob
        exact (I7.pin (D, o) (List.mem_append_right _ (List.mem_append_right _ (mem_pinsAt List.mem_cons_self e)))).2.1
      have n7' : ∀ b ∈ D :: fp, H7 b = none := fun b hb => by
        rcases List.mem_cons.mp hb with rfl | hb
        · exact nD7
        · exact n7 b hb
      have ob7 : ∀ b ∈ D :: fp, ∃ o, s7.heap.get? b = some o ∧ ∀ v, o.data ≠ .cell v := fun b hb => by
        rcases List.mem_cons.mp hb with rfl | hb
        · exact R7.ob
        · exact T.obj _ _ a7 b hb
      have J7 := (I7.unpinned (pins := [])).pinned (fp := D :: fp) (fun b hb => own_fp I7.unpinned hb (n7' b hb) fun _ z => nomatch z) ob7
      have fin : ∀ {τ' : L2.St} {ac : List Int} {s' : Shared} {H' : Hp}, Inv (bCx X sco (D :: fp) s3 H2) [] τ' H' s' → (wipe σ (own.map (·.2))).length = τ'.length → (∀ (j : Nat) v, (wipe σ (own.map (·.2)))[j]? = some (some v) → τ'[j]? = some (some v)) → (∀ b ∈ fp, (∀ o, s7.heap.get? b = some o → s'.heap.get? b = some o) ∧ H' b = none) → H' D = none → Has X.w s'.heap D ac → N ac H' →
          ∃ m, m < n ∧ ∃ i acc H', Inv (bCx X sco (D :: fp) s3 H2) [] (wipe σ (own.map (·.2))) H' s' ∧ tn i s'.heap ∧ (∀ b ∈ D :: fp, H' b = none) ∧ Has X.w s'.heap D acc ∧ W i m acc H' := fun I' hl hk kf kd R' hN =>
        let ⟨m, lm, w⟩ := less _ _ hN
        ⟨m, lm, i + 1, _, _, I'.weak hl hk, T.keep _ _ _ a7 fun b hb o e => (kf b hb).1 o e, fun b hb => (by
          rcases List.mem_cons.mp hb with rfl | hb
          · exact kd
          · exact (kf b hb).2), R', w⟩
      have pin7 : ∀ {τ' : L2.St} {H' : Hp} {s' : Shared} {pl : List (Addr × Obj)}, Inv (bCx X sco (D :: fp) s3 H2) (([] ++ pinsAt (D :: fp) s7.heap) ++ pl) τ' H' s' → ∀ b ∈ D :: fp, (∀ o, s7.heap.get? b = some o → s'.heap.get? b = some o) ∧ H' b = none := fun {τ' H' s' pl} I' b hb =>
        ⟨fun o e => (I'.pin (b, o) (List.mem_append_right _ (List.mem_append_left _ (List.mem_append_right _ (mem_pinsAt hb e))))).1, by
          obtain ⟨o, e, _⟩ := ob7 b hb
          exact (I'.pin (b, o) (List.mem_append_right _ (List.mem_append_left _ (List.mem_append_right _ (mem_pinsAt hb e))))).2.1⟩
      have pin7' : ∀ {τ' : L2.St} {H' : Hp} {s' : Shared}, Inv (bCx X sco (D :: fp) s3 H2) ([] ++ pinsAt (D :: fp) s7.heap) τ' H' s' → ∀ b ∈ D :: fp, (∀ o, s7.heap.get? b = some o → s'.heap.get? b = some o) ∧ H' b = none := fun {τ' H' s'} I' => pin7 (pl := []) (by rw [List.append_nil]; exact I')
      refine thnF (gg.run _ s7 _ H7 x u _ J7 rx (each x H7 y7)) fun _ s8 ⟨τ8, H8, I8, e8, q8⟩ => ?_
      have hl8 : (wipe σ (own.map (·.2))).length = τ8.length := by rw [← e8, wipe_length]
      have hk8 : ∀ (j : Nat) v, (wipe σ (own.map (·.2)))[j]? = some (some v) → τ8[j]? = some (some v) := fun j v e => (wipe_some (by rw [← e8] at e; exact e)).1
      refine thnF (gt.run _ s8 τ8 H8 _ I8 q8) fun b s9 ⟨H9, I9, q9⟩ => ?_
      have p9 := pin7' I9
      have R9 : Has X.w s9.heap D acc := R7.keep (p9 D dm).1
      cases b with
      | false => exact fin I9.unpinned hl8 hk8 (fun b hb => p9 b (List.mem_cons_of_mem _ hb)) (p9 D dm).2 R9 (by simpa using q9)
      | true =>
        rw [if_pos rfl] at q9 ⊢
        refine thnF (gi1.run _ s9 τ8 H9 _ I9 q9) fun xv s10 hx => thnF hx fun itv s11 h11 => ?_
        obtain ⟨it1, fp1, tn1, J1, H11, rfl, I11, T1, a11, f11, W1, ⟨k1, v1⟩, turn1⟩ := h11
        have p11 := pin7' I11
        have nD1 : ∀ b ∈ fp1, b ∉ D :: fp := fun b hb z => by
          obtain ⟨o, e, _⟩ := ob7 b z
          exact (f11 b hb).2.2.2.2.2 (b, o) (List.mem_append_right _ (List.mem_append_right _ (mem_pinsAt z e))) rfl
        have hk9 : ∀ (j : Nat) v, (wipe σ (own.map (·.2)))[j]? = some (some v) → (wipe τ8 vs1)[j]? = some (some v) := fun j v e => by
          obtain ⟨z1, z2⟩ := wipe_some (by rw [← e8] at e; exact e)
          rw [wipe_out fun z => z2 (hv j z)]
          exact z1
        have loop1 : codeAny (model X.prog X.w) X.A (.compLoop (sc2 ev x0 l0 x1 l1 c0 c1 sco pos) 1 (.ref it1) (.ref D) (bEnv X sco s3))
            (fun r s' => match r with | .ok _ => ∃ m, m < n ∧ ∃ i acc H', Inv (bCx X sco (D :: fp) s3 H2) [] (wipe σ (own.map (·.2))) H' s' ∧ tn i s'.heap ∧ (∀ b ∈ D :: fp, H' b = none) ∧ Has X.w s'.heap D acc ∧ W i m acc H' | .error _ => False) s11 := by
          refine sc2_loop1 (fun k s' => ∃ j ac H', Inv (bCx X sco (D :: fp) s3 H2) ([] ++ pinsAt fp s7.heap) (wipe τ8 vs1) H' s' ∧ tn1 j s'.heap ∧ (∀ b ∈ fp1, FpOk (bCx X sco (D :: fp) s3 H2) ([] ++ pinsAt fp s7.heap) H' b) ∧ H' D = none ∧ Has X.w s'.heap D ac ∧ W1 j k ac H') ?_ k1
            ⟨0, acc, H11, (I11.pins_of fun p hp => I11.pin p (List.mem_append_right _ (by
              obtain ⟨z1, z2⟩ := of_pinsAt (show p ∈ pinsAt fp s7.heap from hp)
              exact List.mem_append_right _ (mem_pinsAt (List.mem_cons_of_mem _ z1) z2)))).weak (wipe_length _ _) (fun j v e => (wipe_some e).1), a11, fun b hb => ⟨(f11 b hb).1, (f11 b hb).2.1, (f11 b hb).2.2.1, (f11 b hb).2.2.2.1, (f11 b hb).2.2.2.2.1, fun p hp => fun z => nD1 b hb (List.mem_cons_of_mem _ (z ▸ (of_pinsAt (show p ∈ pinsAt fp s7.heap from hp)).1))⟩, (p11 D dm).2, R7.keep (p11 D dm).1, v1⟩
          rintro k s12 ⟨j, ac, H12, I12, a12, f12, d12, R12, w12⟩
          have pfp : ∀ {τ' : L2.St} {H' : Hp} {s' : Shared} {pl : List (Addr × Obj)}, Inv (bCx X sco (D :: fp) s3 H2) (([] ++ pinsAt fp s7.heap) ++ pl) τ' H' s' → ∀ b ∈ fp, (∀ o, s7.heap.get? b = some o → s'.heap.get? b = some o) ∧ H' b = none := fun {τ' H' s' pl} I' b hb =>
            ⟨fun o e => (I'.pin (b, o) (List.mem_append_right _ (List.mem_append_left _ (List.mem_append_right _ (mem_pinsAt hb e))))).1, by
              obtain ⟨o, e, _⟩ := ob7 b (List.mem_cons_of_mem _ hb)
              exact (I'.pin (b, o) (List.mem_append_right _ (List.mem_append_left _ (List.mem_append_right _ (mem_pinsAt hb e))))).2.1⟩
          have nDp : ∀ p ∈ ([] ++ pinsAt fp s7.heap : List (Addr × Obj)), p.1 ≠ D := fun p hp => nDf _ (of_pinsAt (show p ∈ pinsAt fp s7.heap from hp)).1
          have fD12 := own_fp I12 dm d12 nDp
          have P12 := I12.pinned (fp := [D]) (fun b hb => by rw [List.mem_singleton.mp hb]; exact fD12) fun b hb => by rw [List.mem_singleton.mp hb]; exact R12.ob
          have onl : ∀ {p : Addr × Obj} {h : Heap}, p ∈ pinsAt [D] h → p.1 = D := fun hp => List.mem_singleton.mp (of_pinsAt hp).1
          have wide : ∀ {H' : Hp} {h : Heap} {b : Addr}, b ∈ fp1 → FpOk (bCx X sco (D :: fp) s3 H2) ([] ++ pinsAt fp s7.heap) H' b → FpOk (bCx X sco (D :: fp) s3 H2) (([] ++ pinsAt fp s7.heap) ++ pinsAt [D] h) H' b := fun {H' h b} hb f => ⟨f.1, f.2.1, f.2.2.1, f.2.2.2.1, f.2.2.2.2.1, fun p hp => by
            rcases List.mem_append.mp (show p ∈ ([] ++ pinsAt fp s7.heap) ++ pinsAt [D] h from hp) with z | z
            · exact f.2.2.2.2.2 p z
            · rw [onl z]; exact fun z => nD1 b hb (by rw [← z]; exact dm)⟩
          have nar : ∀ {H' : Hp} {b : Addr}, H' b = none → FpOk (bCx X sco (D :: fp) s3 H2) ([] ++ pinsAt fp s7.heap) H12 b → FpOk (bCx X sco (D :: fp) s3 H2) ([] ++ pinsAt fp s7.heap) H' b := fun h f => ⟨h, f.2⟩
          rcases turn1 j k ac H12 w12 with ⟨stop1, nx⟩ | ⟨go1, N1, less1, each1⟩
          · refine thn (T1.done (bCx X sco (D :: fp) s3 H2) rfl rfl rfl calm j _ s12 (wipe τ8 vs1) H12 _ P12 (fun b hb => wide hb (f12 b hb)) a12 stop1) fun r s13 ⟨hr, I13⟩ => ?_
            subst hr
            have d13 := fun o (e : s12.heap.get? D = some o) => (I13.pin (D, o) (List.mem_append_right _ (List.mem_append_right _ (mem_pinsAt List.mem_cons_self e)))).1
            exact fin (I13.pins_of fun p hp => nomatch hp) (hl8.trans (wipe_length τ8 vs1).symm) hk9 (pfp I13) d12 (R12.keep d13) nx
          · refine thn (T1.item (bCx X sco (D :: fp) s3 H2) rfl rfl rfl calm j _ s12 (wipe τ8 vs1) H12 _ P12 (fun b hb => wide hb (f12 b hb)) a12 go1) fun r s13 ⟨u1, hr, h13⟩ => ?_
            subst hr
            refine thn h13 fun _ s14 ⟨z1, H14, I14, r14, y14, a14, n14⟩ => ?_
            have dd : ∀ {τ' : L2.St} {H' : Hp} {s' : Shared} {pl : List (Addr × Obj)}, Inv (bCx X sco (D :: fp) s3 H2) ((([] ++ pinsAt fp s7.heap) ++ pinsAt [D] s12.heap) ++ pl) τ' H' s' → (∀ o, s12.heap.get? D = some o → s'.heap.get? D = some o) ∧ H' D = none := fun {τ' H' s' pl} I' =>
              ⟨fun o e => (I'.pin (D, o) (List.mem_append_right _ (List.mem_append_left _ (List.mem_append_right _ (mem_pinsAt List.mem_cons_self e))))).1, by
                obtain ⟨o, e, _⟩ := R12.ob
                exact (I'.pin (D, o) (List.mem_append_right _ (List.mem_append_left _ (List.mem_append_right _ (mem_pinsAt List.mem_cons_self e))))).2.1⟩
            have Q14 := I14.pinned (fun b hb => wide hb (nar (n14 b hb) (f12 b hb))) (T1.obj _ _ a14)
            refine thnF (gg1.run _ s14 (wipe τ8 vs1) H14 z1 u1 _ Q14 r14 (each1 z1 H14 y14)) fun _ s15 ⟨τ15, H15, I15, e15, q15⟩ => ?_
            refine thnF (gt1.run _ s15 τ15 H15 _ I15 q15) fun b1 s16 ⟨H16, I16, q16⟩ => ?_
            have pf1 : ∀ {τ' : L2.St} {H' : Hp} {s' : Shared}, Inv (bCx X sco (D :: fp) s3 H2) ((([] ++ pinsAt fp s7.heap) ++ pinsAt [D] s12.heap) ++ pinsAt fp1 s14.heap) τ' H' s' → ∀ b ∈ fp1, (∀ o, s14.heap.get? b = some o → s'.heap.get? b = some o) ∧ H' b = none := fun {τ' H' s'} I' b hb =>
              ⟨fun o e => (I'.pin (b, o) (List.mem_append_right _ (List.mem_append_right _ (mem_pinsAt hb e)))).1, by
                obtain ⟨o, e, _⟩ := T1.obj _ _ a14 b hb
                exact (I'.pin (b, o) (List.mem_append_right _ (List.mem_append_right _ (mem_pinsAt hb e)))).2.1⟩
            have fin1 : ∀ {ac' : List Int} {s' : Shared} {H' : Hp}, Inv (bCx X sco (D :: fp) s3 H2) ([] ++ pinsAt fp s7.heap) τ15 H' s' → (∀ b ∈ fp1, (∀ o, s14.heap.get? b = some o → s'.heap.get? b = some o) ∧ H' b = none) → H' D = none → Has X.w s'.heap D ac' → N1 ac' H' →
                ∃ m, m < k ∧ ∃ j ac H', Inv (bCx X sco (D :: fp) s3 H2) ([] ++ pinsAt fp s7.heap) (wipe τ8 vs1) H' s' ∧ tn1 j s'.heap ∧ (∀ b ∈ fp1, FpOk (bCx X sco (D :: fp) s3 H2) ([] ++ pinsAt fp s7.heap) H' b) ∧ H' D = none ∧ Has X.w s'.heap D ac ∧ W1 j m ac H' := fun I' kf kd R' hN =>
              let ⟨m, lm, w⟩ := less1 _ _ hN
              ⟨m, lm, j + 1, _, _, I'.weak (by rw [← e15, wipe_length]) (fun j v e => (wipe_some (by rw [← e15] at e; exact e)).1), T1.keep _ _ _ a14 fun b hb o e => (kf b hb).1 o e, fun b hb => nar (kf b hb).2 (f12 b hb), kd, R', w⟩
            cases b1 with
            | false => exact fin1 (I16.unpinned.unpinned) (pf1 I16) (dd I16).2 (R12.keep (dd I16).1) (by simpa using q16)
            | true =>
              rw [if_pos rfl] at q16 ⊢
              refine thnF (ge.run _ s16 τ15 H16 _ I16 q16) fun yu s17 ⟨yv, H17, I17, r17, kk, ey, room, hN⟩ => ?_
              subst ey
              obtain ⟨tk, rfl⟩ := r17
              have p17 := pf1 I17
              have nd1 : ∀ b ∈ fp1, b ≠ D := fun b hb z => nD1 b hb (by rw [z]; exact dm)
              exact has_add (Y := bCx X sco (D :: fp) s3 H2) I17.unpinned.unpinned (own_fp I17.unpinned.unpinned dm (dd I17).2 nDp) (R12.keep (dd I17).1) room fun s18 I18 R18 k18 => fin1 I18 (fun b hb => ⟨fun o e => k18 b o (nd1 b hb) ((p17 b hb).1 o e), (p17 b hb).2⟩) (dd I17).2 R18 hN
        exact sc2_start1 loop1 (T1.self X.A 0 _ _ _ a11 loop1)
  exact PpSet.codeAny_compStart_set loop (T.self X.A 0 _ _ _ (T.keep _ _ _ t3 fun b _ o e => kp4 b o e) loop)
theorem pe_sortSc2 {ev x0 l0 x1 l1 : Expr} {c0 c1 : List Expr} {p cpos pos : Pos} {vs1 : List Nat} {wi wi1 : TI} {g g1 : TG} {tt tt1 : TT} {te : TE} (calm : X.calm = true) (hg : Gl X "sorted") (hm : X.mg "sorted" = none) (nd : X.N.Nodup) (pi : PI X x0 l0 wi) (blk : BlkOk X.N X.env.scope sco own) (hv : ∀ i ∈ vs1, i ∈ own.map (·.2))
    (pg : ∀ (s : Shared) (H : Hp) (C : Addr) (cl : List (Str × Addr)) (fp : List Addr), PG (X.blk s H sco (compEnvC sco cl C X.env) fp) x0 g)
    (pt : ∀ (s : Shared) (H : Hp) (C : Addr) (cl : List (Str × Addr)) (fp : List Addr), PTs (X.blk s H sco (compEnvC sco cl C X.env) fp) c0 tt)
    (pi1 : ∀ (s : Shared) (H : Hp) (C : Addr) (cl : List (Str × Addr)) (fp : List Addr), PI (X.blk s H sco (compEnvC sco cl C X.env) fp) x1 l1 wi1)
    (pg1 : ∀ (s : Shared) (H : Hp) (C : Addr) (cl : List (Str × Addr)) (fp : List Addr), PG (X.blk s H sco (compEnvC sco cl C X.env) fp) x1 g1)
    (pt1 : ∀ (s : Shared) (H : Hp) (C : Addr) (cl : List (Str × Addr)) (fp : List Addr), PTs (X.blk s H sco (compEnvC sco cl C X.env) fp) c1 tt1)
    (pe : ∀ (s : Shared) (H : Hp) (C : Addr) (cl : List (Str × Addr)) (fp : List Addr), PE (X.blk s H sco (compEnvC sco cl C X.env) fp) ev te)
    (fs : ∀ z, foldedSetIterable l0 X.env z = pure z := by intro _; rfl) (fs1 : ∀ env z, foldedSetIterable l1 env z = pure z := by intro _ _; rfl)
    (na : starEach [sc2 ev x0 l0 x1 l1 c0 c1 sco cpos] X.env = (false, eval (sc2 ev x0 l0 x1 l1 c0 c1 sco cpos) X.env) :: starEach [] X.env := by rfl) :
    PE X (.Call (.Name "sorted" p) [sc2 ev x0 l0 x1 l1 c0 c1 sco cpos] [] pos) (tSS wi g tt wi1 g1 tt1 te (own.map (·.2)) vs1) := by
  refine ⟨fun pins s σ H Q I h => Call_ (ld_blt I hg hm boot_sorted (PyProof.Rows.callWith_builtin1 (PyProof.Rows.args_cons ?_ na) rfl rfl))⟩
  rw [PpSet.eval_SetComp]
  refine thn (ss_comp calm nd I pi blk hv pg pt pi1 pg1 pt1 pe fs fs1 h) fun _ s1 ⟨D, acc, H1, e, I1, ⟨n, R, ln⟩, l64, q⟩ => PyProof.Rows.args_nil ?_
  subst e
  refine sorted_set R (I1.ok.hd calm) (by omega) fun s' b out c ns kk hg' ho hb hl hi hs hm' hn => ?_
  have nb : H1 b = none := I1.hok.fresh hb
  have sz : (ns.map V.int).length ≤ sizeLine := by rw [List.length_map, hn, sizeLine_eq]; omega
  have J : Inv X pins σ (upd H1 b (.lst (ns.map V.int))) s' := I1.call' (ch := []) ho (Un.laid kk hb nb) (I1.hok.laid kk hb ⟨sz, out.toList, c, vals_of_ints hi, hl⟩) (by rw [hg']; exact I1.bare) (fun _ z => nomatch z)
  exact ⟨.ref b, _, J, rfl, q ns b hs (fun k => by rw [hm' k]; exact decide_eq_true_iff) nb⟩
end
end RK
namespace DL
open PySem PySem.Spec PyProof.Rows L2 RK
def sIn (g : TDG) (tt : TDT) (te : TDE) (k : List Int → Prop) (env : De) : List D → List Int → Prop
  | [], acc => k acc
  | x :: xs, acc => g x env fun env' => tt env' fun b => if b = true then te env' fun y => ∃ n, y = .int n ∧ acc.length + 1 < scanBound ∧ sIn g tt te k env xs (acc ++ [n]) else sIn g tt te k env xs acc
def sOut (g : TDG) (tt : TDT) (it1 : TDI) (g1 : TDG) (tt1 : TDT) (te : TDE) (vs1 : List Nat) (P : List Int → Prop) (env : De) : List D → List Int → Prop
  | [], acc => P acc
  | x :: xs, acc => g x env fun env' => tt env' fun b => if b = true then it1 env' fun ys => sIn g1 tt1 te (fun ac => sOut g tt it1 g1 tt1 te vs1 P env xs ac) (wipeE env' vs1) ys acc else sOut g tt it1 g1 tt1 te vs1 P env xs acc
def dSS (it : TDI) (g : TDG) (tt : TDT) (it1 : TDI) (g1 : TDG) (tt1 : TDT) (te : TDE) (vs vs1 : List Nat) : TDE := fun env P => it env fun xs => sOut g tt it1 g1 tt1 te vs1 (fun acc => acc.length < 64 ∧ ∀ ns : List Int, ns.Pairwise (· < ·) → (∀ k, k ∈ ns ↔ k ∈ acc) → P (.lst (ns.map D.int))) (wipeE env vs) xs []
section
variable {X : Cx} {F : Fx}
theorem l_ss {S vs S1 vs1 : List Nat} {it it1 : TDI} {g g1 : TDG} {tt tt1 : TDT} {te : TDE} (hS : ∀ i ∈ S, i ∈ vs) (hS1 : ∀ i ∈ S1, i ∈ vs1) : ∀ σ H Q, lN F (dSS it g tt it1 g1 tt1 te vs vs1) σ H Q → tSS (lIb F it) (lG F S g) (lT F tt) (lI F it1) (lG F S1 g1) (lT F tt1) (lC F te) vs vs1 σ H Q := fun σ H Q ⟨env, L, P, A, pp, q⟩ =>
  ⟨env, L, _, A, pp, fun xs J H1 px k1 o1 ok => by
    have A1 := A.step k1 o1
    have B0 := A1.wipe vs
    let PP : List Int → Prop := fun acc => acc.length < 64 ∧ ∀ ns : List Int, ns.Pairwise (· < ·) → (∀ k, k ∈ ns ↔ k ∈ acc) → P (.lst (ns.map D.int))
    let Z : (List Int → Prop) → List Int → Hp → Prop := fun lp acc H' => Abs F (wipeE env vs) (wipe σ vs) L H' ∧ (∀ a o, ¬ F.W.own a → H1 a = some o → H' a = some o) ∧ lp acc
    refine ⟨fun i m acc H' => Z (fun acc => sOut g tt it1 g1 tt1 te vs1 PP (wipeE env vs) (xs.drop i) acc) acc H' ∧ i ≤ xs.length ∧ m = xs.length - i, ⟨_, ⟨B0, fun a o _ h => h, px⟩, Nat.zero_le _, rfl⟩, ?_⟩
    rintro i m acc H' ⟨⟨B, kk, lp⟩, hi, rfl⟩
    obtain ⟨st, go⟩ := ok (F.N L) H' (fun a o n h => ⟨fun nn => nn, kk a o n h⟩) (fun a h => B.alN h) i
    by_cases hlt : i < xs.length
    · obtain ⟨g1', g2⟩ := go xs[i] (List.getElem?_eq_getElem hlt)
      rw [List.drop_eq_getElem_cons hlt] at lp
      refine .inr ⟨g1', fun ac H2 => Z (fun acc => sOut g tt it1 g1 tt1 te vs1 PP (wipeE env vs) (xs.drop (i + 1)) acc) ac H2, fun ac H2 z => ⟨xs.length - (i + 1), by omega, z, hlt, rfl⟩, fun v H2 hy => ?_⟩
      obtain ⟨sm, dd⟩ := g2 v H2 hy
      have B2 := B.step (same_keep sm) (same_ok B.ok sm)
      refine ⟨_, _, _, _, B2, dd, lp, fun env3 σ3 p3 B3 w3 n3 => ⟨by rw [w3 vs hS]; exact wipe_wipe σ vs, env3, _, _, B3, p3, fun bb H3 p4 k4 o4 => ?_⟩⟩
      have B4 := B3.step k4 o4
      have W4 : Abs F (wipeE env vs) (wipe σ vs) L H3 := B2.step k4 o4
      have kk3 : ∀ a o, ¬ F.W.own a → H1 a = some o → H3 a = some o := fun a o n h => k4 a o n (sm a o (kk a o n h))
      cases bb with
      | false => exact iteF ⟨W4, kk3, p4⟩
      | true =>
        refine iteT ⟨env3, _, _, B4, p4, fun ys J1 H4 p5 k5 o5 ok1 => ?_⟩
        have B5 := B4.step k5 o5
        have W5 := W4.step k5 o5
        let Z1 : Nat → List Int → Hp → Prop := fun jj ac HH => Abs F (wipeE env3 vs1) (wipe σ3 vs1) L HH ∧ Abs F (wipeE env vs) (wipe σ vs) L HH ∧ (∀ a o, ¬ F.W.own a → H1 a = some o → HH a = some o) ∧ (∀ a o, ¬ F.N L a → H4 a = some o → HH a = some o) ∧ sIn g1 tt1 te (fun ac => sOut g tt it1 g1 tt1 te vs1 PP (wipeE env vs) (xs.drop (i + 1)) ac) (wipeE env3 vs1) (ys.drop jj) ac
        refine ⟨fun jj kx ac HH => Z1 jj ac HH ∧ jj ≤ ys.length ∧ kx = ys.length - jj, ⟨_, ⟨B5.wipe vs1, W5, fun a o n h => k5 a o n (kk3 a o n h), fun _ _ _ h => h, p5⟩, Nat.zero_le _, rfl⟩, ?_⟩
        rintro jj kx ac HH ⟨⟨V, Y, kk5, kp5, lp5⟩, hj, rfl⟩
        obtain ⟨st1, go1⟩ := ok1 (F.N L) HH (fun a o n h => ⟨n, kp5 a o n h⟩) (fun a h => V.alN h) jj
        by_cases hlt1 : jj < ys.length
        · obtain ⟨u1, u2⟩ := go1 ys[jj] (List.getElem?_eq_getElem hlt1)
          rw [List.drop_eq_getElem_cons hlt1] at lp5
          refine .inr ⟨u1, fun a2 HH => Z1 (jj + 1) a2 HH, fun a2 HH z => ⟨ys.length - (jj + 1), by omega, z, hlt1, rfl⟩, fun v1 H6 hy1 => ?_⟩
          obtain ⟨sm1, dd1⟩ := u2 v1 H6 hy1
          have V2 := V.step (same_keep sm1) (same_ok V.ok sm1)
          have Y2 := Y.step (same_keep sm1) (same_ok Y.ok sm1)
          refine ⟨_, _, _, _, V2, dd1, lp5, fun env7 σ7 p7 V7 w7 _ => ⟨by rw [w7 vs1 hS1]; exact wipe_wipe σ3 vs1, env7, _, _, V7, p7, fun b1 H8 p8 k8 o8 => ?_⟩⟩
          have V8 := V7.step k8 o8
          have U8 : Abs F (wipeE env3 vs1) (wipe σ3 vs1) L H8 := V2.step k8 o8
          have Y8 := Y2.step k8 o8
          have kk8 : ∀ a o, ¬ F.W.own a → H1 a = some o → H8 a = some o := fun a o n h => k8 a o n (sm1 a o (kk5 a o n h))
          have kp8 : ∀ a o, ¬ F.N L a → H4 a = some o → H8 a = some o := fun a o n h => k8 a o (nw_of V n) (sm1 a o (kp5 a o n h))
          cases b1 with
          | false => exact iteF ⟨U8, Y8, kk8, kp8, p8⟩
          | true =>
            refine iteT ⟨env7, _, _, V8, p8, fun y v' H9 p9 k9 o9 d9 => ?_⟩
            obtain ⟨n, rfl, room, p9⟩ := p9
            cases d9
            exact ⟨n, rfl, room, U8.step k9 o9, Y8.step k9 o9, fun a o m h => k9 a o m (kk8 a o m h), fun a o m h => k9 a o (nw_of V m) (kp8 a o m h), p9⟩
        · have e : ys.drop jj = [] := List.drop_eq_nil_of_le (by omega)
          rw [e] at lp5
          exact .inl ⟨st1 (by omega), Y, kk5, lp5⟩
    · have e : xs.drop i = [] := List.drop_eq_nil_of_le (by omega)
      rw [e] at lp
      obtain ⟨l64, qq⟩ := lp
      have dd : ∀ ns : List Int, DdAll F.K (F.N L) F.W H' (ns.map V.int) (ns.map D.int) := fun ns => by
        induction ns with
        | nil => exact .nil
        | cons n ns ih => exact .cons (.int n) ih
      exact .inl ⟨st (by omega), l64, fun ns p h1 h2 np => q _ p _ (qq ns h1 h2) ((k1.trans fun a o n h => kk a o n h).trans (.new np)) (ok_new B.ok np) (free_of k1 o1 (free_of (fun a o n h => kk a o n h) B.ok np)) (new_lstN B np (dd ns))⟩⟩
end
end DL
namespace DL
open PySem PySem.Spec PyProof.Rows L2 RK
section
variable {X : Cx} {F : Fx} {e : Expr} {d : TDE} {pos p : Pos}
end
end DL
namespace DL
open PySem PySem.Spec PyProof.Rows L2 RK
section
variable {X : Cx} {F : Fx} {e a b : Expr} {d da db : TDE} {pos p : Pos}
end
end DL
namespace DL
open PySem PySem.Spec PyProof.Rows L2 RK
section
variable {X : Cx} {F : Fx} {a b : Expr} {da db : TDE} {pos : Pos}
end
end DL
namespace RK
open PySem PySem.Spec PyProof.Rows L2
variable {P : Program} {w : World} {K : PySem.W.Frag} {mg : Str → Option Value} {base : Heap}
end RK
namespace DL
open PySem PySem.Spec PyProof.Rows L2 RK
section
variable {X : Cx} {F : Fx} {e : Expr} {d : TDE} {pos p : Pos}
end
end DL
namespace RK
open PySem PySem.Calls PyProof.Rows PyProof.V PySem.Spec PySem.W
section
variable {prog : Program} {w : World} {K : Type} [DecidableEq K] {knd : KeyKind prog w K} {A : Around} {E : Value → Shared → Prop} {s : Shared}
end
end RK
namespace DL
open PySem PySem.Spec PyProof.Rows L2 RK
section
variable {X : Cx} {F : Fx} {e a b : Expr} {d da db : TDE} {pos p : Pos}
end
end DL
namespace RK
open PySem PySem.Spec PyProof.Rows L2
open PySem.Sem (wp)
inductive Out : Value → Prop
  | no : Out .none
  | num (T : Addr) : Out (rawInt T)
abbrev ZR (h : Heap) (z : Addr) (o f : Value) (p q : Addr) : Prop :=
  h.get? z = some { cls := .type "zip", dict := none, data := .fields #[o, f, .bool false, .ref p, .ref q], slots := #[] }
theorem lives {prog : Program} {w : World} {A : Around} {E : Value → Shared → Prop} {s : Shared} {t : Addr} {Q : Option Obj → Shared → Prop} (h : Q (s.heap.get? t) s) : wpAny (model prog w) A (loadIfAlive t) Q E s := fun _ _ _ => h
theorem raised {prog : Program} {w : World} {A : Around} {E : Value → Shared → Prop} {s : Shared} {z e p q : Addr} {o f : Value} {Q : Unit → Shared → Prop} (r : ZR s.heap z o f p q) (x : ∃ u, s.heap.get? e = some u ∧ u.cls = .type "StopIteration")
    (k : ∀ h', Heap.SameBut z s.heap h' → (∃ u, h'.get? e = some u ∧ u.cls = .type "StopIteration") → Q () { s with heap := h' }) : wpAny (model prog w) A (setField (.ref z) 0 .none) Q E s :=
  wpAny_setField_rec r (by simp) fun h' _ k1 => k h' k1 (by
    obtain ⟨u, e1, e2⟩ := x
    refine ⟨u, k1.extBut _ _ (fun y => ?_) e1, e2⟩
    subst y
    rw [r] at e1
    cases e1
    exact absurd (show Value.type "zip" = .type "StopIteration" from e2) (by decide))
section
variable {prog : Program} {w : World} {A : Around} {E : Value → Shared → Prop} {z TI TO i1 i2 : Addr} {fp1 fp2 : List Addr} {n1 n2 : Nat} {P1 P2 : Nat → Value → Prop} {St1 St2 : Nat → Heap → Prop}
structure Zs (z TI TO i1 i2 : Addr) (St1 St2 : Nat → Heap → Prop) (h0 : Heap) (m : Nat) (o : Value) (f : Bool) (j1 j2 : Nat) (a b : Value) (h : Heap) : Prop where
  rcd : ZR h z o (.bool f) TI TO
  ins : IsPair h TI (.ref i1) (.ref i2)
  out : IsPair h TO a b
  s1 : St1 j1 h
  s2 : St2 j2 h
  num : h.objs.size = m
  rest : ∀ c u, c ≠ z → c ≠ TO → c ≠ i1 → c ≠ i2 → h0.get? c = some u → h.get? c = some u
variable (S : ZipSep2 z TI TO i1 i2 fp1 fp2) (D1 : Draws prog w A i1 fp1 n1 P1 St1) (D2 : Draws prog w A i2 fp2 n2 P2 St2)
variable {h0 h h' : Heap} {m : Nat} {o o' : Value} {f f' : Bool} {j1 j2 : Nat} {a b a' b' : Value}
include S D1 D2
theorem Zs.note (q : Zs z TI TO i1 i2 St1 St2 h0 m o f j1 j2 a b h) (k : Heap.SameBut z h h') (r : ZR h' z o' (.bool f') TI TO) : Zs z TI TO i1 i2 St1 St2 h0 m o' f' j1 j2 a b h' :=
  ⟨r, k.extBut _ _ S.TIz q.ins, k.extBut _ _ S.TOz q.out, D1.over q.s1 k S.zf1, D2.over q.s2 k S.zf2, k.1.trans q.num, fun c u e1 e2 e3 e4 x => k.extBut _ _ e1 (q.rest c u e1 e2 e3 e4 x)⟩
theorem Zs.write (q : Zs z TI TO i1 i2 St1 St2 h0 m o f j1 j2 a b h) (k : Heap.SameBut TO h h') (r : IsPair h' TO a' b') : Zs z TI TO i1 i2 St1 St2 h0 m o f j1 j2 a' b' h' :=
  ⟨k.extBut _ _ S.TOz.symm q.rcd, k.extBut _ _ S.TITO q.ins, r, D1.over q.s1 k S.Tf1, D2.over q.s2 k S.Tf2, k.1.trans q.num, fun c u e1 e2 e3 e4 x => k.extBut _ _ e2 (q.rest c u e1 e2 e3 e4 x)⟩
theorem Zs.one (q : Zs z TI TO i1 i2 St1 St2 h0 m o f j1 j2 a b h) (k : Heap.SameBut i1 h h') (r : St1 (j1 + 1) h') : Zs z TI TO i1 i2 St1 St2 h0 m o f (j1 + 1) j2 a b h' :=
  ⟨k.extBut _ _ S.zi1 q.rcd, k.extBut _ _ S.TIi1 q.ins, k.extBut _ _ S.Ti1 q.out, r, D2.over q.s2 k S.sep1_2, k.1.trans q.num, fun c u e1 e2 e3 e4 x => k.extBut _ _ e3 (q.rest c u e1 e2 e3 e4 x)⟩
theorem Zs.two (q : Zs z TI TO i1 i2 St1 St2 h0 m o f j1 j2 a b h) (k : Heap.SameBut i2 h h') (r : St2 (j2 + 1) h') : Zs z TI TO i1 i2 St1 St2 h0 m o f j1 (j2 + 1) a b h' :=
  ⟨k.extBut _ _ S.zi2 q.rcd, k.extBut _ _ S.TIi2 q.ins, k.extBut _ _ S.Ti2 q.out, D1.over q.s1 k S.sep2_1, r, k.1.trans q.num, fun c u e1 e2 e3 e4 x => k.extBut _ _ e4 (q.rest c u e1 e2 e3 e4 x)⟩
theorem Zs.more (q : Zs z TI TO i1 i2 St1 St2 h0 m o f j1 j2 a b h) (t : Obj) : Zs z TI TO i1 i2 St1 St2 h0 (m + 1) o f j1 j2 a b (h.push t) := by
  have up : ∀ c u, h.get? c = some u → (h.push t).get? c = some u := fun c u e => Heap.get?_push_of_some _ e
  exact ⟨up _ _ q.rcd, up _ _ q.ins, up _ _ q.out, D1.frame _ _ _ q.s1 fun c _ u e => up c u e, D2.frame _ _ _ q.s2 fun c _ u e => up c u e, by rw [Heap.size_push, q.num], fun c u e1 e2 e3 e4 x => up c u (q.rest c u e1 e2 e3 e4 x)⟩
theorem Zs.draw1 {s : Shared} {Q : Value → Shared → Prop} (q : Zs z TI TO i1 i2 St1 St2 h0 m o f j1 j2 a b s.heap) (l : j1 < n1)
    (k : ∀ x h' t, P1 j1 x → Zs z TI TO i1 i2 St1 St2 h0 m o f (j1 + 1) j2 a b h' → Q x { s with heap := h', toks := t }) : wpAny (model prog w) A (Builtin.SmallTypes.nextOf (.ref i1)) Q E s :=
  D1.item j1 s Q E l q.s1 fun x h' t p st sb => k x h' t p (q.one S D1 D2 sb st)
theorem Zs.draw2 {s : Shared} {Q : Value → Shared → Prop} (q : Zs z TI TO i1 i2 St1 St2 h0 m o f j1 j2 a b s.heap) (l : j2 < n2)
    (k : ∀ x h' t, P2 j2 x → Zs z TI TO i1 i2 St1 St2 h0 m o f j1 (j2 + 1) a b h' → Q x { s with heap := h', toks := t }) : wpAny (model prog w) A (Builtin.SmallTypes.nextOf (.ref i2)) Q E s :=
  D2.item j2 s Q E l q.s2 fun x h' t p st sb => k x h' t p (q.two S D1 D2 sb st)
theorem Zs.ask {s : Shared} {Q : Bool → Shared → Prop} (q : Zs z TI TO i1 i2 St1 St2 h0 m o f j1 j2 a b s.heap) (ho : Out o)
    (k : ∀ y h' f', Zs z TI TO i1 i2 St1 St2 h0 m o f' j1 j2 a b h' → Q y { s with heap := h' }) : wpAny (model prog w) A (Builtin.SmallTypes.ownedTupleIsFree (.ref z)) Q E s := by
  unfold Builtin.SmallTypes.ownedTupleIsFree
  refine wpAny_bind (wpAny_field q.rcd rfl (x := o) rfl ?_)
  cases ho with
  | no => exact wpAny_pure (k true s.heap f q)
  | num T =>
    refine wpAny_bind (lives ?_)
    generalize s.heap.get? _ = al
    cases al with
    | none => exact wpAny_pure (k true s.heap f q)
    | some u =>
      refine wpAny_bind (wpAny_field q.rcd rfl (x := .bool f) rfl ?_)
      cases f with
      | true => exact wpAny_pure (k false s.heap true q)
      | false => exact wpAny_bind (wpAny_setField_rec q.rcd (by simp) fun h' r sb => wpAny_pure (k false h' true (q.note S D1 D2 sb r)))
theorem Zs.put {s : Shared} {β : Type} {r : Sem β} {Q : β → Shared → Prop} {x : Value} (q : Zs z TI TO i1 i2 St1 St2 h0 m o f j1 j2 a b s.heap) (n : Nat) (e : (#[a, b] : Array Value).setIfInBounds n x = #[a', b'])
    (k : ∀ h', Zs z TI TO i1 i2 St1 St2 h0 m o f j1 j2 a' b' h' → wpAny (model prog w) A r Q E { s with heap := h' }) :
    wpAny (model prog w) A (do let some kept ← seqItems? (.ref TO) | unsupported "internal:zip.__next__"
                               updateSeq TO (·.setIfInBounds n x)
                               letGo [kept.getD n .none]
                               r) Q E s := by
  refine wpAny_bind (wpAny_seqItems q.out rfl (wpAny_bind (wpAny_updateSeq q.out rfl (wpAny_bind (wpAny_letGo (k _ (q.write S D1 D2 (Heap.SameBut.update ..) ?_)))))))
  show Heap.get? _ _ = _
  rw [Heap.get?_update_self _ q.out rfl, ← e]
  simp [Obj.mapSeq]
theorem Zs.next {s : Shared} {Q : Value → Shared → Prop} {j : Nat} (q : Zs z TI TO i1 i2 St1 St2 s.heap s.heap.objs.size o f j j a b s.heap) (ho : Out o) (l1 : j < n1) (l2 : j < n2)
    (k : ∀ x y h' t o' f' a' b', P1 j x → P2 j y → Out o' → IsPair h' s.heap.objs.size x y → Zs z TI TO i1 i2 St1 St2 s.heap (s.heap.objs.size + 1) o' f' (j + 1) (j + 1) a' b' h' → Q (.ref s.heap.objs.size) { s with heap := h', toks := t }) :
    wpAny (model prog w) A (Builtin.«zip.__next__» ⟨[.ref z], []⟩) (fun v s' => ∃ u, v = .done (.ret u) ∧ Q u s') E s := by
  have lz : z < s.heap.objs.size := Heap.lt_size q.rcd
  show wpAny _ _ (field (.ref z) 2 >>= _) _ _ _
  refine wpAny_bind (wpAny_field q.rcd rfl (x := .bool false) rfl (wpAny_bind (wpAny_field q.rcd rfl (x := .ref TI) rfl (wpAny_bind (wpAny_seqItems q.ins rfl ?_)))))
  refine wpAny_bind (q.ask S D1 D2 ho fun y h1 f1 q1 => ?_)
  cases y
  · refine wpAny_bind ?_
    rw [← Array.forIn_toList]
    simp only [List.forIn_cons, List.forIn_nil]
    refine wpAny_bind (wpAny_bind (wpAny_holding (wpAny_bind (Zs.draw1 S D1 D2 (s := { s with heap := h1 }) q1 l1 fun x h2 t2 px q2 => wpAny_pure (wpAny_pure ?_)))))
    refine wpAny_bind (wpAny_bind (wpAny_holding (wpAny_bind (Zs.draw2 S D1 D2 (s := { s with heap := h2, toks := t2 }) q2 l2 fun y h3 t3 py q3 => wpAny_pure (wpAny_pure (wpAny_pure ?_))))))
    refine wpAny_bind (wpAny_newTuple (hsz := by show 2 ≤ sizeLine; decide) (wpAny_pure ⟨_, rfl, ?_⟩))
    have e := Heap.get?_push_size h3 (o := { cls := .type "tuple", data := .seq #[x, y] }) rfl
    rw [q3.num] at e
    have g := k x y _ t3 o f1 a b px py ho e (q3.more S D1 D2 _)
    rw [← q3.num] at g
    exact g
  · refine wpAny_bind (wpAny_rule (wpAny_bind (wpAny_field q1.rcd rfl (x := .ref TO) rfl (wpAny_bind (wpAny_setField_rec q1.rcd (by simp) fun h2 r2 k2 => ?_)))))
    have q2 : Zs z TI TO i1 i2 St1 St2 s.heap s.heap.objs.size .ellipsis f1 j j a b h2 := q1.note S D1 D2 k2 r2
    refine wpAny_bind ?_
    simp only [List.zipIdx_cons, List.zipIdx_nil, List.forIn_cons, List.forIn_nil]
    refine wpAny_bind (wpAny_bind (wpAny_onRaise (wpAny_bind (Zs.draw1 S D1 D2 (s := { s with heap := h2 }) q2 l1 fun x h3 t3 px q3 => wpAny_pure ?_))))
    refine Zs.put S D1 D2 (s := { s with heap := h3, toks := t3 }) q3 0 (a' := x) (b' := b) rfl fun h4 q4 => wpAny_pure ?_
    refine wpAny_bind (wpAny_bind (wpAny_onRaise (wpAny_bind (Zs.draw2 S D1 D2 (s := { s with heap := h4, toks := t3 }) q4 l2 fun y h5 t5 py q5 => wpAny_pure ?_))))
    refine Zs.put S D1 D2 (s := { s with heap := h5, toks := t5 }) q5 1 (a' := x) (b' := y) rfl fun h6 q6 => wpAny_pure (wpAny_pure ?_)
    refine wpAny_bind (wpAny_seqItems q6.out rfl (wpAny_bind (wpAny_newTuple (hsz := by show 2 ≤ sizeLine; decide) ?_)))
    have e := Heap.get?_push_size h6 (o := { cls := .type "tuple", data := .seq #[x, y] }) rfl
    have q7 := q6.more S D1 D2 { cls := .type "tuple", data := .seq #[x, y] }
    refine wpAny_bind (wpAny_bind (wpAny_setField_rec q7.rcd (by simp) fun h8 r8 k8 => ?_))
    refine wpAny_setField_rec r8 (by simp) fun h9 r9 k9 => wpAny_pure ⟨_, rfl, ?_⟩
    have q9 : Zs z TI TO i1 i2 St1 St2 s.heap (s.heap.objs.size + 1) (rawInt h6.objs.size) false (j + 1) (j + 1) x y h9 := (q7.note S D1 D2 (o' := rawInt h6.objs.size) (f' := f1) k8 r8).note S D1 D2 k9 r9
    have e9 : IsPair h9 h6.objs.size x y := by
      have ne : h6.objs.size ≠ z := by rw [q6.num]; exact Nat.ne_of_gt lz
      exact k9.extBut _ _ ne (k8.extBut _ _ ne e)
    rw [q6.num] at e9
    have g := k x y _ t5 _ false x y px py (.num _) e9 q9
    rw [← q6.num] at g
    exact g
theorem Zs.over {s : Shared} {Q : Fin → Shared → Prop} {j : Nat} (q : Zs z TI TO i1 i2 St1 St2 s.heap s.heap.objs.size o f j j a b s.heap) (ho : Out o) (l : j = n1 ∨ (j < n1 ∧ j = n2))
    (k : ∀ h' t e, (∀ c u, c ≠ z → c ≠ TO → c ≠ i1 → c ≠ i2 → s.heap.get? c = some u → h'.get? c = some u) → (∃ u, h'.get? e = some u ∧ u.cls = .type "StopIteration") → E (.ref e) { s with heap := h', toks := t }) :
    wpAny (model prog w) A (Builtin.«zip.__next__» ⟨[.ref z], []⟩) Q E s := by
  show wpAny _ _ (field (.ref z) 2 >>= _) _ _ _
  refine wpAny_bind (wpAny_field q.rcd rfl (x := .bool false) rfl (wpAny_bind (wpAny_field q.rcd rfl (x := .ref TI) rfl (wpAny_bind (wpAny_seqItems q.ins rfl ?_)))))
  refine wpAny_bind (q.ask S D1 D2 ho fun y h1 f1 q1 => ?_)
  cases y
  · refine wpAny_bind ?_
    rw [← Array.forIn_toList]
    simp only [List.forIn_cons, List.forIn_nil]
    refine wpAny_bind (wpAny_bind (wpAny_holding (wpAny_bind ?_)))
    rcases l with rfl | ⟨l1, rfl⟩
    · exact D1.done { s with heap := h1 } _ _ q1.s1 fun h2 e k2 x => k h2 s.toks e (fun c u e1 e2 e3 e4 y => k2 _ _ e3 (q1.rest c u e1 e2 e3 e4 y)) x
    · refine Zs.draw1 S D1 D2 (s := { s with heap := h1 }) q1 l1 fun x h2 t2 px q2 => wpAny_pure (wpAny_pure ?_)
      refine wpAny_bind (wpAny_bind (wpAny_holding (wpAny_bind ?_)))
      exact D2.done { s with heap := h2, toks := t2 } _ _ q2.s2 fun h3 e k3 x => k h3 t2 e (fun c u e1 e2 e3 e4 y => k3 _ _ e4 (q2.rest c u e1 e2 e3 e4 y)) x
  · refine wpAny_bind (wpAny_rule (wpAny_bind (wpAny_field q1.rcd rfl (x := .ref TO) rfl (wpAny_bind (wpAny_setField_rec q1.rcd (by simp) fun h2 r2 k2 => ?_)))))
    have q2 : Zs z TI TO i1 i2 St1 St2 s.heap s.heap.objs.size .ellipsis f1 j j a b h2 := q1.note S D1 D2 k2 r2
    refine wpAny_bind ?_
    simp only [List.zipIdx_cons, List.zipIdx_nil, List.forIn_cons, List.forIn_nil]
    refine wpAny_bind (wpAny_bind (wpAny_onRaise (wpAny_bind ?_)))
    rcases l with rfl | ⟨l1, rfl⟩
    · exact D1.done { s with heap := h2 } _ _ q2.s1 fun h3 e k3 x => raised (s := { s with heap := h3 }) (k3 _ _ S.zi1 q2.rcd) x fun h4 k4 y => k h4 s.toks e (fun c u e1 e2 e3 e4 y => k4.extBut _ _ e1 (k3 _ _ e3 (q2.rest c u e1 e2 e3 e4 y))) y
    · refine Zs.draw1 S D1 D2 (s := { s with heap := h2 }) q2 l1 fun x h3 t3 px q3 => wpAny_pure ?_
      refine Zs.put S D1 D2 (s := { s with heap := h3, toks := t3 }) q3 0 (a' := x) (b' := b) rfl fun h4 q4 => wpAny_pure ?_
      refine wpAny_bind (wpAny_bind (wpAny_onRaise (wpAny_bind ?_)))
      exact D2.done { s with heap := h4, toks := t3 } _ _ q4.s2 fun h5 e k5 x => raised (s := { s with heap := h5, toks := t3 }) (k5 _ _ S.zi2 q4.rcd) x fun h6 k6 y => k h6 t3 e (fun c u e1 e2 e3 e4 y => k6.extBut _ _ e1 (k5 _ _ e4 (q4.rest c u e1 e2 e3 e4 y))) y
end
section
variable {prog : Program} {w : World} {A : Around} {E : Value → Shared → Prop} {z TI TO i1 i2 : Addr} {fp1 fp2 : List Addr} {n1 n2 : Nat} {P1 P2 : Nat → Value → Prop} {St1 St2 : Nat → Heap → Prop} {o : Value} {f : Bool} {a b : Value}
end
structure Kin (Sq : PySem.W.Frag → Hp → Addr → List V → Prop) (Has : Heap → Addr → Array Value → Prop) (Itr : Heap → Addr → Addr → Nat → Prop) : Prop where
  stay : ∀ {h h' : Heap} {i l : Addr} {k : Nat}, Itr h i l k → (∀ u, h.get? i = some u → h'.get? i = some u) → Itr h' i l k
  live : ∀ {h : Heap} {i l : Addr} {k : Nat}, Itr h i l k → ∃ u, h.get? i = some u ∧ ∀ v, u.data ≠ .cell v
  lt : ∀ {h : Heap} {l : Addr} {xs : Array Value}, Has h l xs → l < h.objs.size
  items : ∀ {X : Cx} {pins : List (Addr × Obj)} {σ : L2.St} {H : Hp} {s : Shared} {l : Addr} {xs : List V}, Inv X pins σ H s → Sq X.K H l xs → ∃ its : List Value, Vals xs its ∧ Has s.heap l its.toArray
  inj : ∀ {X : Cx} {pins : List (Addr × Obj)} {σ : L2.St} {H : Hp} {s : Shared} {l : Addr} {xs ys : List V}, Inv X pins σ H s → Sq X.K H l xs → Sq X.K H l ys → xs = ys
  goes : ∀ {prog : Program} {w : World} {A : Around}, A.handled = none → ∀ (i l : Addr) (xs : Array Value), l ≠ i → Draws prog w A i [i, l] xs.size (fun k v => xs[k]? = some v) (fun k h => Itr h i l k ∧ Has h l xs)
  ends : ∀ {prog : Program} {w : World} {A : Around}, A.handled = none → ∀ (i l : Addr) (xs : Array Value) (n : Nat), l ≠ i → xs.size ≤ n → Draws prog w A i [i, l] n (fun _ _ => False) (fun k h => k = n ∧ Itr h i l n ∧ Has h l xs)
section
variable {Sq : PySem.W.Frag → Hp → Addr → List V → Prop} {Has : Heap → Addr → Array Value → Prop} {Itr : Heap → Addr → Addr → Nat → Prop}
def ZipAt (Itr : Heap → Addr → Addr → Nat → Prop) (z TI TO i1 i2 l1 l2 : Addr) (i : Nat) (h : Heap) : Prop :=
  ∃ o f a b, Out o ∧ ZR h z o (.bool f) TI TO ∧ IsPair h TI (.ref i1) (.ref i2) ∧ IsPair h TO a b ∧ Itr h i1 l1 i ∧ Itr h i2 l2 i
theorem made {X : Cx} {pins : List (Addr × Obj)} {σ : L2.St} {H : Hp} {s : Shared} {h' : Heap} {l1 l2 : Addr} {x : String} {px : Pos} {J : It} {R : It → Hp → Prop} (kin : Kin Sq Has Itr) (I : Inv X pins σ H s) (e1 : l1 < s.heap.objs.size) (e2 : l2 < s.heap.objs.size)
    (k : ∀ c u, s.heap.get? c = some u → h'.get? c = some u) (at0 : ZipAt Itr (s.heap.objs.size + 4) (s.heap.objs.size + 2) (s.heap.objs.size + 3) s.heap.objs.size (s.heap.objs.size + 1) l1 l2 0 h')
    (t : Turn X.prog X.w X.K (.Name x px) J [s.heap.objs.size + 4, s.heap.objs.size + 2, s.heap.objs.size + 3, s.heap.objs.size, s.heap.objs.size + 1] (s.heap.objs.size + 4) (ZipAt Itr (s.heap.objs.size + 4) (s.heap.objs.size + 2) (s.heap.objs.size + 3) s.heap.objs.size (s.heap.objs.size + 1) l1 l2)) (q : R J H) :
    PIE X pins σ (.Name x px) R (.ref (s.heap.objs.size + 4)) { s with heap := h' } := by
  refine ⟨_, _, _, J, H, rfl, I.kept (t' := s.toks) k, t, at0, fun c hc => ?_, q⟩
  have le : s.heap.objs.size ≤ c := by
    simp only [List.mem_cons, List.not_mem_nil, or_false] at hc
    rcases hc with rfl | rfl | rfl | rfl | rfl
    all_goals first | exact Nat.le_add_right _ _ | exact Nat.le_refl _
  exact I.fpOk le (I.hok.fresh le)
end
end RK
namespace DL
open PySem PySem.Spec PyProof.Rows L2 RK
section
variable {X : Cx} {F : Fx} {e a b c tg iter : Expr} {es : List Expr} {d da db dc : TDE} {ds : TDA} {pos p : Pos} {i j l : Nat}
end
end DL
namespace DL
open PySem PySem.Spec PyProof.Rows L2 RK
theorem bIx_l {xs : List D} {j : Nat} {x : D} (h : xs[j]? = some x) : bIx (.lst xs) (.int (j : Nat)) = some x := by
  show (atI xs (j : Int)).or _ = some x
  rw [atI_nat h]
  rfl
theorem bIx_tp {xs : List D} {j : Nat} {x : D} (h : xs[j]? = some x) : bIx (.tup xs) (.int (j : Nat)) = some x := by
  show (atI xs (j : Int)).or _ = some x
  rw [atI_nat h]
  rfl
theorem bIx_s {z : Str} (hz : z.length ≤ sizeLine) {j : Nat} {c : Nat} (h : z.cps.toList[j]? = some c) : bIx (.str z) (.int (j : Nat)) = some (.str ⟨#[c]⟩) := by
  show (none : Option D).or ((if z.length ≤ sizeLine then (atI z.cps.toList (j : Int)).map (fun c => D.str ⟨#[c]⟩) else none).or _) = _
  rw [if_pos hz, atI_nat h]
  rfl
theorem allD_map (bs : List Bool) : allD [.lst (bs.map D.bl)] = some (.bl (bs.all id)) := by
  show (blsD (bs.map D.bl)).map _ = _
  rw [blsD_map]
  rfl
theorem allD_f {α : Type} (l : List α) (f : α → Bool) : allD [.lst (l.map fun a => D.bl (f a))] = some (.bl (l.all f)) := by
  have : (l.map fun a => D.bl (f a)) = (l.map f).map D.bl := by rw [List.map_map]; rfl
  rw [this, allD_map, List.all_map]
  rfl
theorem szM {n : Nat} (h : n ≤ 1000000) : n < sizeLine := Nat.lt_of_le_of_lt h (by rw [sizeLine_eq]; decide)
theorem comp_all {α : Type} {g : TDG} {tt : TDT} {te : TDE} {P : D → Prop} {env : De} (enc : α → D) (R : α → D → Prop) : ∀ (l : List α) (acc : List D), (∀ a ∈ l, ∀ (Q : D → Prop) (Z : Prop), (∀ y, R a y → Q y) → g (enc a) env fun env' => tt env' fun b => if b = true then te env' Q else Z) → acc.length + l.length ≤ 1000000 →
    (∀ ys, Paired R l ys → P (.lst (acc ++ ys))) → dComp g tt te P env (l.map enc) acc
  | [], acc, _, _, q => by
    have := q [] .nil
    rw [List.append_nil] at this
    exact this
  | a :: l, acc, h, hl, q => h a List.mem_cons_self _ _ fun y hy => by
      refine ⟨szM (by simp at hl; omega), comp_all enc R l (acc ++ [y]) (fun b hb => h b (List.mem_cons_of_mem _ hb)) (by simp at hl ⊢; omega) fun ys hys => ?_⟩
      rw [List.append_assoc]
      exact q (y :: ys) (.cons hy hys)
theorem comp_map {α : Type} {g : TDG} {tt : TDT} {te : TDE} {P : D → Prop} {env : De} (enc f : α → D) : ∀ (l : List α) (acc : List D), (∀ a ∈ l, ∀ (Q : D → Prop) (Z : Prop), Q (f a) → g (enc a) env fun env' => tt env' fun b => if b = true then te env' Q else Z) → acc.length + l.length ≤ 1000000 →
    P (.lst (acc ++ l.map f)) → dComp g tt te P env (l.map enc) acc
  | [], acc, _, _, q => by
    rw [List.map_nil, List.append_nil] at q
    exact q
  | a :: l, acc, h, hl, q => h a List.mem_cons_self _ _ (by
      refine ⟨szM (by simp at hl; omega), comp_map enc f l (acc ++ [f a]) (fun b hb => h b (List.mem_cons_of_mem _ hb)) (by simp at hl ⊢; omega) ?_⟩
      rw [List.append_assoc]
      exact q)
theorem comp_filter {α : Type} {g : TDG} {tt : TDT} {te : TDE} {P : D → Prop} {env : De} (enc f : α → D) (p : α → Bool) : ∀ (l : List α) (acc : List D), (∀ a ∈ l, ∀ (Q : D → Prop) (Z : Prop), (p a = true → Q (f a)) → (p a = false → Z) → g (enc a) env fun env' => tt env' fun b => if b = true then te env' Q else Z) → acc.length + l.length ≤ 1000000 →
    P (.lst (acc ++ (l.filter p).map f)) → dComp g tt te P env (l.map enc) acc
  | [], acc, _, _, q => by
    rw [List.filter_nil, List.map_nil, List.append_nil] at q
    exact q
  | a :: l, acc, h, hl, q => by
    refine h a List.mem_cons_self _ _ (fun hp => ⟨szM (by simp at hl; omega), comp_filter enc f p l (acc ++ [f a]) (fun b hb => h b (List.mem_cons_of_mem _ hb)) (by simp at hl ⊢; omega) ?_⟩) (fun hp => comp_filter enc f p l acc (fun b hb => h b (List.mem_cons_of_mem _ hb)) (by simp at hl ⊢; omega) ?_)
    · rw [List.filter_cons_of_pos hp, List.map_cons] at q
      rw [List.append_assoc]
      exact q
    · rw [List.filter_cons_of_neg (by rw [hp]; exact Bool.false_ne_true)] at q
      exact q
theorem loop_inv {α : Type} {g : TDG} {body : TDS} {P : DEnds} (enc : α → D) (l : List α) (I : List α → De → Prop)
    (step : ∀ (pre : List α) (a : α) (post : List α) (env : De), l = pre ++ a :: post → I pre env → ∀ k : De → Prop, (∀ env', I (pre ++ [a]) env' → k env') → g (enc a) env fun env' => body { nx := k, rt := P.rt, bk := P.nx, ct := k } env') (done : ∀ env, I l env → P.nx env) :
    ∀ (post pre : List α) (env : De), l = pre ++ post → I pre env → sLoop g body P (post.map enc) env
  | [], pre, env, e, h => by
    rw [List.append_nil] at e
    exact done env (e ▸ h)
  | a :: post, pre, env, e, h => step pre a post env e h _ fun env' h' => loop_inv enc l I step done post (pre ++ [a]) env' (by rw [List.append_assoc]; exact e) h'
theorem loop_all {α : Type} {g : TDG} {body : TDS} {P : DEnds} {env : De} (enc : α → D) (l : List α) (I : List α → De → Prop) (h0 : I [] env)
    (step : ∀ (pre : List α) (a : α) (post : List α) (env : De), l = pre ++ a :: post → I pre env → ∀ k : De → Prop, (∀ env', I (pre ++ [a]) env' → k env') → g (enc a) env fun env' => body { nx := k, rt := P.rt, bk := P.nx, ct := k } env') (done : ∀ env, I l env → P.nx env) :
    sLoop g body P (l.map enc) env := loop_inv enc l I step done l [] env rfl h0
theorem loop_rng {g : TDG} {body : TDS} {P : DEnds} {env : De} {lo : Int} {n : Nat} (I : Nat → De → Prop) (h0 : I 0 env)
    (step : ∀ (i : Nat) (env : De), i < n → I i env → ∀ k : De → Prop, (∀ env', I (i + 1) env' → k env') → g (.int (lo + (i : Nat))) env fun env' => body { nx := k, rt := P.rt, bk := P.nx, ct := k } env') (done : ∀ env, I n env → P.nx env) :
    sLoop g body P (rngD lo n) env := by
  unfold rngD
  refine loop_all (fun k : Nat => D.int (lo + (k : Nat))) (List.range n) (fun pre env => I pre.length env) h0 (fun pre a post env e h k hk => ?_) (fun env h => done env (by rw [List.length_range] at h; exact h))
  have hl : pre.length < n := by
    have := congrArg List.length e
    simp at this
    omega
  have ha : a = pre.length := by
    have h1 : (List.range n)[pre.length]? = some a := by rw [e]; simp
    rw [List.getElem?_range hl] at h1
    exact (Option.some.inj h1).symm
  rw [ha]
  exact step pre.length env hl h k fun env' h' => hk env' (by rw [List.length_append]; exact h')
def sp_of : DSp := fun ds P => (∃ xs, (ds = [.bag, .lst xs] ∨ ds = [.bag, .tup xs]) ∧ 1 ≤ xs.length ∧ xs.length ≤ 1000000 ∧ ∀ x ∈ xs, P x) ∨ (∃ z : Str, ds = [.bag, .str z] ∧ 1 ≤ z.length ∧ z.length ≤ 1000000 ∧ ∀ c ∈ z.cps.toList, P (.str ⟨#[c]⟩))
def d_of : TDS := (sRet (dO2 bIx (dV 1) (dCall sp_pull (aCons (dV 0) (aCons (dCa lenD (aCons (dV 1) aNil)) aNil)))))
theorem rd_of {ds : List D} {P : D → Prop} (h : sp_of ds P) : d_of (fin false P) (st 2 ds) := by
  rcases h with ⟨xs, h | h, l1, l2, q⟩ | ⟨z, rfl, l1, l2, q⟩
  · subst h
    simp only [d_of, dC, dV, dB, dO2, ob_some, dT, dAndT, dOrT, dNotT, dIf, dAndV, dOrV, dNotV, dChain, aNil, aCons, dTup, dLst, dCut, oNone, oSome, dRev, dNeg, dTru, dCa, dIs, dIsA, dCall, dCallK, sNil, sSeq, sNever, sBrk, sCont, sIf, sRet, sRetO, sRetE, sSet, sSetO, sDrop, sPar, sPar3, kn, enOf, owD, sAsg, gNm, gsNil, gsCons, gTp, sApp, sIns, sExt, sClr, sRev, sPut, sFrz, owAt, fin, st, iRng, iRngB, iSeq, lstD, tupD, sFor, dLc, dDc, wipeE, tYesD, dIndex, dSort, dDictZip, dMeth, dFld, dMk, List.map_cons, List.map_nil, List.length_cons, List.length_nil, List.replicate_succ, List.replicate_zero, List.cons_append, List.nil_append, List.append_nil, List.getElem?_cons_zero, List.getElem?_cons_succ, List.set_cons_zero, List.set_cons_succ, Option.bind_some, Option.map_some, Nat.reduceSub, Nat.reduceAdd, kwP, List.getD_cons_zero, List.getD_cons_succ, lenD]
    refine ⟨_, rfl, by omega, by omega, fun r r0 r1 => ?_⟩
    obtain ⟨j, rfl⟩ : ∃ j : Nat, r = (j : Int) := ⟨r.toNat, by omega⟩
    show ob (bIx (.lst xs) (.int (j : Nat))) P
    rw [bIx_l (List.getElem?_eq_getElem (by omega))]
    exact q _ (List.getElem_mem _)
  · subst h
    simp only [d_of, dC, dV, dB, dO2, ob_some, dT, dAndT, dOrT, dNotT, dIf, dAndV, dOrV, dNotV, dChain, aNil, aCons, dTup, dLst, dCut, oNone, oSome, dRev, dNeg, dTru, dCa, dIs, dIsA, dCall, dCallK, sNil, sSeq, sNever, sBrk, sCont, sIf, sRet, sRetO, sRetE, sSet, sSetO, sDrop, sPar, sPar3, kn, enOf, owD, sAsg, gNm, gsNil, gsCons, gTp, sApp, sIns, sExt, sClr, sRev, sPut, sFrz, owAt, fin, st, iRng, iRngB, iSeq, lstD, tupD, sFor, dLc, dDc, wipeE, tYesD, dIndex, dSort, dDictZip, dMeth, dFld, dMk, List.map_cons, List.map_nil, List.length_cons, List.length_nil, List.replicate_succ, List.replicate_zero, List.cons_append, List.nil_append, List.append_nil, List.getElem?_cons_zero, List.getElem?_cons_succ, List.set_cons_zero, List.set_cons_succ, Option.bind_some, Option.map_some, Nat.reduceSub, Nat.reduceAdd, kwP, List.getD_cons_zero, List.getD_cons_succ, lenD]
    refine ⟨_, rfl, by omega, by omega, fun r r0 r1 => ?_⟩
    obtain ⟨j, rfl⟩ : ∃ j : Nat, r = (j : Int) := ⟨r.toNat, by omega⟩
    show ob (bIx (.tup xs) (.int (j : Nat))) P
    rw [bIx_tp (List.getElem?_eq_getElem (by omega))]
    exact q _ (List.getElem_mem _)
  · have hz : z.length ≤ sizeLine := Nat.le_of_lt (szM l2)
    simp only [d_of, dC, dV, dB, dO2, ob_some, dT, dAndT, dOrT, dNotT, dIf, dAndV, dOrV, dNotV, dChain, aNil, aCons, dTup, dLst, dCut, oNone, oSome, dRev, dNeg, dTru, dCa, dIs, dIsA, dCall, dCallK, sNil, sSeq, sNever, sBrk, sCont, sIf, sRet, sRetO, sRetE, sSet, sSetO, sDrop, sPar, sPar3, kn, enOf, owD, sAsg, gNm, gsNil, gsCons, gTp, sApp, sIns, sExt, sClr, sRev, sPut, sFrz, owAt, fin, st, iRng, iRngB, iSeq, lstD, tupD, sFor, dLc, dDc, wipeE, tYesD, dIndex, dSort, dDictZip, dMeth, dFld, dMk, List.map_cons, List.map_nil, List.length_cons, List.length_nil, List.replicate_succ, List.replicate_zero, List.cons_append, List.nil_append, List.append_nil, List.getElem?_cons_zero, List.getElem?_cons_succ, List.set_cons_zero, List.set_cons_succ, Option.bind_some, Option.map_some, Nat.reduceSub, Nat.reduceAdd, kwP, List.getD_cons_zero, List.getD_cons_succ, lenD, if_pos hz]
    refine ⟨_, rfl, by omega, by omega, fun r r0 r1 => ?_⟩
    obtain ⟨j, rfl⟩ : ∃ j : Nat, r = (j : Int) := ⟨r.toNat, by omega⟩
    have hj : j < z.cps.toList.length := by rw [← str_len]; omega
    show ob (bIx (.str z) (.int (j : Nat))) P
    rw [bIx_s hz (List.getElem?_eq_getElem hj)]
    exact q _ (List.getElem_mem _)
def sp_mixed : DSp := fun ds P => ∃ xs, (ds = [.bag, .lst xs] ∨ ds = [.bag, .tup xs]) ∧ xs.length ≤ 100000 ∧ ∀ ys : List D, ys.Perm xs → P (.lst ys)
def d_mixed : TDS := (sSeq (sSetO 2 (dLst aNil))
  (sSeq (sFor (iSeq (dV 1)) (gNm 3) (sIns 2 (dCall sp_pull (aCons (dV 0) (aCons (dO2 bAdd (dCa lenD (aCons (dB 2) aNil)) (dC (.int 1))) aNil))) (dV 3)))
  (sRetO 2)))
theorem rd_mixed {ds : List D} {P : D → Prop} (h : sp_mixed ds P) : d_mixed (fin true P) (st 4 ds) := by
  obtain ⟨xs, h, l2, q⟩ := h
  have loop : ∀ y : D, sLoop (gNm 3) (sIns 2 (dCall sp_pull (aCons (dV 0) (aCons (dO2 bAdd (dCa lenD (aCons (dB 2) aNil)) (dC (.int 1))) aNil))) (dV 3)) { fin true P with nx := sRetO 2 (fin true P) } xs [.fz .bag, .fz y, .ow [], .no] := fun y => by
    have := loop_all (g := gNm 3) (body := sIns 2 (dCall sp_pull (aCons (dV 0) (aCons (dO2 bAdd (dCa lenD (aCons (dB 2) aNil)) (dC (.int 1))) aNil))) (dV 3)) (P := { fin true P with nx := sRetO 2 (fin true P) }) (env := [.fz .bag, .fz y, .ow [], .no]) id xs (fun pre env => ∃ ys e, env = [.fz .bag, .fz y, .ow ys, e] ∧ ys.Perm pre) ⟨[], .no, rfl, .nil⟩ (fun pre a post env e h k hk => ?_) (fun env h => ?_)
    · rw [List.map_id] at this
      exact this
    · obtain ⟨ys, e2, rfl, hp⟩ := h
      have hl : ys.length < 100001 := by
        have h1 := hp.length_eq
        have h2 := congrArg List.length e
        simp at h2
        omega
      simp only [dC, dV, dB, dO2, ob_some, dT, dAndT, dOrT, dNotT, dIf, dAndV, dOrV, dNotV, dChain, aNil, aCons, dTup, dLst, dCut, oNone, oSome, dRev, dNeg, dTru, dCa, dIs, dIsA, dCall, dCallK, sNil, sSeq, sNever, sBrk, sCont, sIf, sRet, sRetO, sRetE, sSet, sSetO, sDrop, sPar, sPar3, kn, enOf, owD, sAsg, gNm, gsNil, gsCons, gTp, sApp, sIns, sExt, sClr, sRev, sPut, sFrz, owAt, fin, st, iRng, iRngB, iSeq, lstD, tupD, sFor, dLc, dDc, wipeE, tYesD, dIndex, dSort, dDictZip, dMeth, dFld, dMk, List.map_cons, List.map_nil, List.length_cons, List.length_nil, List.replicate_succ, List.replicate_zero, List.cons_append, List.nil_append, List.append_nil, List.getElem?_cons_zero, List.getElem?_cons_succ, List.set_cons_zero, List.set_cons_succ, Option.bind_some, Option.map_some, Nat.reduceSub, Nat.reduceAdd, kwP, List.getD_cons_zero, List.getD_cons_succ, lenD, bAdd, iI0, Option.some_or]
      refine ⟨_, rfl, by omega, by omega, fun r r0 r1 => ⟨szM (by omega), r0, by omega, hk _ ⟨_, _, rfl, ?_⟩⟩⟩
      have e3 : ys = ys.take r.toNat ++ ys.drop r.toNat := (List.take_append_drop _ _).symm
      rw [List.append_assoc]
      refine (List.perm_middle).trans ?_
      show (a :: (ys.take r.toNat ++ ys.drop r.toNat)).Perm (pre ++ [a])
      rw [← e3]
      exact (List.Perm.cons a hp).trans (List.perm_append_singleton a pre).symm
    · obtain ⟨ys, e2, rfl, hp⟩ := h
      simp only [dC, dV, dB, dO2, ob_some, dT, dAndT, dOrT, dNotT, dIf, dAndV, dOrV, dNotV, dChain, aNil, aCons, dTup, dLst, dCut, oNone, oSome, dRev, dNeg, dTru, dCa, dIs, dIsA, dCall, dCallK, sNil, sSeq, sNever, sBrk, sCont, sIf, sRet, sRetO, sRetE, sSet, sSetO, sDrop, sPar, sPar3, kn, enOf, owD, sAsg, gNm, gsNil, gsCons, gTp, sApp, sIns, sExt, sClr, sRev, sPut, sFrz, owAt, fin, st, iRng, iRngB, iSeq, lstD, tupD, sFor, dLc, dDc, wipeE, tYesD, dIndex, dSort, dDictZip, dMeth, dFld, dMk, List.map_cons, List.map_nil, List.length_cons, List.length_nil, List.replicate_succ, List.replicate_zero, List.cons_append, List.nil_append, List.append_nil, List.getElem?_cons_zero, List.getElem?_cons_succ, List.set_cons_zero, List.set_cons_succ, Option.bind_some, Option.map_some, Nat.reduceSub, Nat.reduceAdd, kwP, List.getD_cons_zero, List.getD_cons_succ]
      exact q ys hp
  rcases h with h | h
  · subst h
    simp only [d_mixed, dC, dV, dB, dO2, ob_some, dT, dAndT, dOrT, dNotT, dIf, dAndV, dOrV, dNotV, dChain, aNil, aCons, dTup, dLst, dCut, oNone, oSome, dRev, dNeg, dTru, dCa, dIs, dIsA, dCall, dCallK, sNil, sSeq, sNever, sBrk, sCont, sIf, sRet, sRetO, sRetE, sSet, sSetO, sDrop, sPar, sPar3, kn, enOf, owD, sAsg, gNm, gsNil, gsCons, gTp, sApp, sIns, sExt, sClr, sRev, sPut, sFrz, owAt, fin, st, iRng, iRngB, iSeq, lstD, tupD, sFor, dLc, dDc, wipeE, tYesD, dIndex, dSort, dDictZip, dMeth, dFld, dMk, List.map_cons, List.map_nil, List.length_cons, List.length_nil, List.replicate_succ, List.replicate_zero, List.cons_append, List.nil_append, List.append_nil, List.getElem?_cons_zero, List.getElem?_cons_succ, List.set_cons_zero, List.set_cons_succ, Option.bind_some, Option.map_some, Nat.reduceSub, Nat.reduceAdd, kwP, List.getD_cons_zero, List.getD_cons_succ]
    exact ⟨Nat.zero_le _, .inl (loop _)⟩
  · subst h
    simp only [d_mixed, dC, dV, dB, dO2, ob_some, dT, dAndT, dOrT, dNotT, dIf, dAndV, dOrV, dNotV, dChain, aNil, aCons, dTup, dLst, dCut, oNone, oSome, dRev, dNeg, dTru, dCa, dIs, dIsA, dCall, dCallK, sNil, sSeq, sNever, sBrk, sCont, sIf, sRet, sRetO, sRetE, sSet, sSetO, sDrop, sPar, sPar3, kn, enOf, owD, sAsg, gNm, gsNil, gsCons, gTp, sApp, sIns, sExt, sClr, sRev, sPut, sFrz, owAt, fin, st, iRng, iRngB, iSeq, lstD, tupD, sFor, dLc, dDc, wipeE, tYesD, dIndex, dSort, dDictZip, dMeth, dFld, dMk, List.map_cons, List.map_nil, List.length_cons, List.length_nil, List.replicate_succ, List.replicate_zero, List.cons_append, List.nil_append, List.append_nil, List.getElem?_cons_zero, List.getElem?_cons_succ, List.set_cons_zero, List.set_cons_succ, Option.bind_some, Option.map_some, Nat.reduceSub, Nat.reduceAdd, kwP, List.getD_cons_zero, List.getD_cons_succ]
    exact ⟨Nat.zero_le _, .inr (.inl (loop _))⟩
end DL
namespace DL
open PySem PySem.Spec PyProof.Rows L2 RK
def rectD (p : R) : D := .tup [.int p.l, .int p.t, .int p.r, .int p.b]
def sp_rectangle : DSp := fun ds P => ∃ c : Int, ds = [.bag, .int c] ∧ 1 ≤ c ∧ c ≤ 100000000 ∧ ∀ x y x2 y2 : Int, -4 ≤ x → x ≤ 4 → -4 ≤ y → y ≤ 4 → x < x2 → x2 ≤ x + 4 → y < y2 → y2 ≤ y + 4 → P (rectD ⟨c * x, c * y, c * x2, c * y2⟩)
def d_rectangle : TDS := (sSeq (sPar 2 3 false false (dO2 bSub (dCall sp_pull (aCons (dV 0) (aCons (dC (.int 9)) aNil))) (dC (.int 4))) (dO2 bSub (dCall sp_pull (aCons (dV 0) (aCons (dC (.int 9)) aNil))) (dC (.int 4))))
  (sSeq (sPar 4 5 false false (dO2 bAdd (dO2 bAdd (dV 2) (dC (.int 1))) (dCall sp_pull (aCons (dV 0) (aCons (dC (.int 4)) aNil)))) (dO2 bAdd (dO2 bAdd (dV 3) (dC (.int 1))) (dCall sp_pull (aCons (dV 0) (aCons (dC (.int 4)) aNil)))))
  (sRet (dTup (aCons (dO2 bMul (dV 1) (dV 2)) (aCons (dO2 bMul (dV 1) (dV 3)) (aCons (dO2 bMul (dV 1) (dV 4)) (aCons (dO2 bMul (dV 1) (dV 5)) aNil))))))))
theorem rd_rectangle {ds : List D} {P : D → Prop} (h : sp_rectangle ds P) : d_rectangle (fin true P) (st 6 ds) := by
  obtain ⟨c, rfl, c1, c2, q⟩ := h
  simp only [d_rectangle, dC, dV, dB, dO2, ob_some, dT, dAndT, dOrT, dNotT, dIf, dAndV, dOrV, dNotV, dChain, aNil, aCons, dTup, dLst, dCut, oNone, oSome, dRev, dNeg, dTru, dCa, dIs, dIsA, dCall, dCallK, sNil, sSeq, sNever, sBrk, sCont, sIf, sRet, sRetO, sRetE, sSet, sSetO, sDrop, sPar, sPar3, kn, enOf, owD, sAsg, gNm, gsNil, gsCons, gTp, sApp, sIns, sExt, sClr, sRev, sPut, sFrz, owAt, fin, st, iRng, iRngB, iSeq, lstD, tupD, sFor, dLc, dDc, wipeE, tYesD, dIndex, dSort, dDictZip, dMeth, dFld, dMk, List.map_cons, List.map_nil, List.length_cons, List.length_nil, List.replicate_succ, List.replicate_zero, List.cons_append, List.nil_append, List.append_nil, List.getElem?_cons_zero, List.getElem?_cons_succ, List.set_cons_zero, List.set_cons_succ, Option.bind_some, Option.map_some, Nat.reduceSub, Nat.reduceAdd, kwP, List.getD_cons_zero, List.getD_cons_succ, bSub, bAdd, iI0, Option.some_or]
  refine ⟨_, rfl, by decide, by decide, fun r r0 r1 => ⟨_, rfl, by decide, by decide, fun s s0 s1 => ?_⟩⟩
  refine ⟨_, rfl, by decide, by decide, fun u u0 u1 => ⟨_, rfl, by decide, by decide, fun v v0 v1 => ?_⟩⟩
  have e : ∀ z : Int, bMul (.int c) (.int z) = some (.int (c * z)) := fun z => by
    show (if decide _ = true then some (D.int (c * z)) else none).or _ = _
    rw [if_pos (decide_eq_true (.inl ⟨by omega, by omega⟩))]
    rfl
  simp only [dC, dV, dB, dO2, ob_some, dT, dAndT, dOrT, dNotT, dIf, dAndV, dOrV, dNotV, dChain, aNil, aCons, dTup, dLst, dCut, oNone, oSome, dRev, dNeg, dTru, dCa, dIs, dIsA, dCall, dCallK, sNil, sSeq, sNever, sBrk, sCont, sIf, sRet, sRetO, sRetE, sSet, sSetO, sDrop, sPar, sPar3, kn, enOf, owD, sAsg, gNm, gsNil, gsCons, gTp, sApp, sIns, sExt, sClr, sRev, sPut, sFrz, owAt, fin, st, iRng, iRngB, iSeq, lstD, tupD, sFor, dLc, dDc, wipeE, tYesD, dIndex, dSort, dDictZip, dMeth, dFld, dMk, List.map_cons, List.map_nil, List.length_cons, List.length_nil, List.replicate_succ, List.replicate_zero, List.cons_append, List.nil_append, List.append_nil, List.getElem?_cons_zero, List.getElem?_cons_succ, List.set_cons_zero, List.set_cons_succ, Option.bind_some, Option.map_some, Nat.reduceSub, Nat.reduceAdd, kwP, List.getD_cons_zero, List.getD_cons_succ, e, bSub, bAdd, iI0, Option.some_or]
  exact ⟨by decide, q (r - 4) (s - 4) (r - 4 + 1 + u) (s - 4 + 1 + v) (by omega) (by omega) (by omega) (by omega) (by omega) (by omega) (by omega) (by omega)⟩
theorem abc_get {j : Nat} (h : j < 26) : abc.cps.toList[j]? = some (97 + j) := by
  rw [abc_codes, List.getElem?_range' h, Nat.one_mul]
def sp_names : DSp := fun ds P => ∃ n : Int, ds = [.bag, .int n] ∧ 0 ≤ n ∧ n ≤ 26 ∧ ∀ zs : List Str, zs.length = n.toNat → (∀ z ∈ zs, NameOk z) → zs.Nodup → P (.lst (zs.map D.str))
def d_names : TDS := (sSeq (sAsg (dTup (aCons (dC (.str "abcdefghijklmnopqrstuvwxyz")) (aCons (dC (.str "")) aNil))) (gTp 2 (gsCons (gNm 2) (gsCons (gNm 3) gsNil))))
  (sSeq (sFor (iRng (aCons (dCall sp_pull (aCons (dV 0) (aCons (dC (.int 6)) aNil))) aNil)) (gNm 4) (sSet 3 (dO2 bAdd (dV 3) (dCall sp_of (aCons (dV 0) (aCons (dV 2) aNil))))))
  (sSeq (sIf (dT (dO2 (bEqN false) (dCall sp_pull (aCons (dV 0) (aCons (dC (.int 4)) aNil))) (dC (.int 0)))) (sRet (dLc (iRng (aCons (dV 1) aNil)) (gNm 4) tYesD (dO2 bMul (dO2 bIx (dV 2) (dO2 bMod (dO2 bAdd (dCa lenD (aCons (dV 3) aNil)) (dO2 bMul (dC (.int 7)) (dV 4))) (dC (.int 26)))) (dO2 bAdd (dC (.int 1)) (dO2 bMod (dO2 bAdd (dCa lenD (aCons (dV 3) aNil)) (dO2 bMul (dC (.int 5)) (dV 4))) (dC (.int 4))))) [4])) sNil)
  (sSeq (sAsg (dTup (aCons (dCall sp_pull (aCons (dV 0) (aCons (dO2 bAdd (dCa lenD (aCons (dV 3) aNil)) (dC (.int 1))) aNil))) (aCons (dCall sp_pull (aCons (dV 0) (aCons (dC (.int 26)) aNil))) (aCons (dCall sp_of (aCons (dV 0) (aCons (dLst (aCons (dC (.int 1)) (aCons (dC (.int 3)) (aCons (dC (.int 5)) (aCons (dC (.int 7)) (aCons (dC (.int 9)) aNil)))))) aNil))) aNil)))) (gTp 3 (gsCons (gNm 5) (gsCons (gNm 6) (gsCons (gNm 7) gsNil)))))
  (sRet (dLc (iRng (aCons (dV 1) aNil)) (gNm 4) tYesD (dO2 bAdd (dO2 bAdd (dCut cutA (dV 3) oNone (oSome (dV 5))) (dO2 bIx (dV 2) (dO2 bMod (dO2 bAdd (dV 6) (dO2 bMul (dV 7) (dV 4))) (dC (.int 26))))) (dCut cutA (dV 3) (oSome (dV 5)) oNone)) [4]))))))
theorem nodup_map_range {β : Type} {n : Nat} {f : Nat → β} (h : ∀ i j, i < n → j < n → f i = f j → i = j) : ((List.range n).map f).Nodup := by
  rw [List.nodup_iff_pairwise_ne, List.pairwise_map]
  refine List.Pairwise.imp_of_mem (fun {a b} ha hb hab e => ?_) (List.nodup_iff_pairwise_ne.mp List.nodup_range)
  exact hab (h a b (List.mem_range.mp ha) (List.mem_range.mp hb) e)
theorem bMul_i {i j : Int} (h : -(2 ^ 64) < i) (h' : i < 2 ^ 64) : bMul (.int i) (.int j) = some (.int (i * j)) := by
  show (if decide _ = true then some (D.int (i * j)) else none).or _ = _
  rw [if_pos (decide_eq_true (.inl ⟨h, h'⟩))]
  rfl
theorem bMod_i {i j : Int} (h : 0 < j) : bMod (.int i) (.int j) = some (.int (i % j)) := by
  show (if decide _ = true then some (D.int (i % j)) else none) = _
  rw [if_pos (decide_eq_true h)]
theorem bAdd_i (i j : Int) : bAdd (.int i) (.int j) = some (.int (i + j)) := rfl
theorem bAdd_s {x y : Str} (h : x.length + y.length ≤ sizeLine) : bAdd (.str x) (.str y) = some (.str (x ++ y)) := by
  show (none : Option D).or ((if x.length + y.length ≤ sizeLine then some (D.str (x ++ y)) else none).or _) = _
  rw [if_pos h]
  rfl
theorem bEq_i (i j : Int) : bEqN false (.int i) (.int j) = some (.bl (decide (i = j))) := by
  show (some (D.bl (false ^^ decide (i = j)))).or _ = _
  rw [Bool.false_xor]
  rfl
theorem bIx_abc {j : Nat} (h : j < 26) : bIx (.str abc) (.int (j : Nat)) = some (.str ⟨#[97 + j]⟩) := bIx_s (by rw [abc_len]; exact Nat.le_of_lt (szM (by decide))) (abc_get h)
theorem rd_names {ds : List D} {P : D → Prop} (h : sp_names ds P) : d_names (fin true P) (st 8 ds) := by
  obtain ⟨n, rfl, n0, n1, q⟩ := h
  simp only [d_names, dC, dV, dB, dO2, ob_some, dT, dAndT, dOrT, dNotT, dIf, dAndV, dOrV, dNotV, dChain, aNil, aCons, dTup, dLst, dCut, oNone, oSome, dRev, dNeg, dTru, dCa, dIs, dIsA, dCall, dCallK, sNil, sSeq, sNever, sBrk, sCont, sIf, sRet, sRetO, sRetE, sSet, sSetO, sDrop, sPar, sPar3, kn, enOf, owD, sAsg, gNm, gsNil, gsCons, gTp, sApp, sIns, sExt, sClr, sRev, sPut, sFrz, owAt, fin, st, iRng, iRngB, iSeq, lstD, tupD, sFor, dLc, dDc, wipeE, tYesD, dIndex, dSort, dDictZip, dMeth, dFld, dMk, List.map_cons, List.map_nil, List.length_cons, List.length_nil, List.replicate_succ, List.replicate_zero, List.cons_append, List.nil_append, List.append_nil, List.getElem?_cons_zero, List.getElem?_cons_succ, List.set_cons_zero, List.set_cons_succ, Option.bind_some, Option.map_some, Nat.reduceSub, Nat.reduceAdd, kwP, List.getD_cons_zero, List.getD_cons_succ]
  refine ⟨by decide, trivial, trivial, ⟨_, rfl, by decide, by decide, fun r r0 r1 => ⟨by omega, by omega, ?_⟩⟩⟩
  refine loop_rng (fun i env => ∃ e4 bs, env = [.fz .bag, .fz (.int n), .fz (.str abc), .fz (.str bs), e4, .no, .no, .no] ∧ bs.length = i ∧ ∀ c ∈ bs.cps.toList, Low c) ⟨.no, "", rfl, by decide +kernel, by intro c hc; exact absurd hc (by decide +kernel +revert)⟩ (fun i env hi h k hk => ?_) (fun env h => ?_)
  · obtain ⟨e4, bs, rfl, hl, hc⟩ := h
    simp only [dC, dV, dB, dO2, ob_some, dT, dAndT, dOrT, dNotT, dIf, dAndV, dOrV, dNotV, dChain, aNil, aCons, dTup, dLst, dCut, oNone, oSome, dRev, dNeg, dTru, dCa, dIs, dIsA, dCall, dCallK, sNil, sSeq, sNever, sBrk, sCont, sIf, sRet, sRetO, sRetE, sSet, sSetO, sDrop, sPar, sPar3, kn, enOf, owD, sAsg, gNm, gsNil, gsCons, gTp, sApp, sIns, sExt, sClr, sRev, sPut, sFrz, owAt, fin, st, iRng, iRngB, iSeq, lstD, tupD, sFor, dLc, dDc, wipeE, tYesD, dIndex, dSort, dDictZip, dMeth, dFld, dMk, List.map_cons, List.map_nil, List.length_cons, List.length_nil, List.replicate_succ, List.replicate_zero, List.cons_append, List.nil_append, List.append_nil, List.getElem?_cons_zero, List.getElem?_cons_succ, List.set_cons_zero, List.set_cons_succ, Option.bind_some, Option.map_some, Nat.reduceSub, Nat.reduceAdd, kwP, List.getD_cons_zero, List.getD_cons_succ]
    refine .inr ⟨abc, rfl, by rw [abc_len]; decide, by rw [abc_len]; decide, fun c hm => ?_⟩
    dsimp only
    rw [bAdd_s (by rw [one_len, hl]; exact Nat.le_of_lt (szM (by omega)))]
    refine hk _ ⟨_, _, rfl, ?_, fun c' hc' => ?_⟩
    · rw [str_len, app_codes, List.length_append, ← str_len, hl]
      rfl
    · rw [app_codes] at hc'
      rcases List.mem_append.mp hc' with h | h
      · exact hc c' h
      · have h := List.mem_singleton.mp h
        subst h
        exact abc_mem.mp hm
  · obtain ⟨e4, bs, rfl, hl, hc⟩ := h
    have hb5 : bs.length ≤ 5 := by omega
    have hbs : bs.length ≤ sizeLine := Nat.le_of_lt (szM (by omega))
    simp only [dC, dV, dB, dO2, ob_some, dT, dAndT, dOrT, dNotT, dIf, dAndV, dOrV, dNotV, dChain, aNil, aCons, dTup, dLst, dCut, oNone, oSome, dRev, dNeg, dTru, dCa, dIs, dIsA, dCall, dCallK, sNil, sSeq, sNever, sBrk, sCont, sIf, sRet, sRetO, sRetE, sSet, sSetO, sDrop, sPar, sPar3, kn, enOf, owD, sAsg, gNm, gsNil, gsCons, gTp, sApp, sIns, sExt, sClr, sRev, sPut, sFrz, owAt, fin, st, iRng, iRngB, iSeq, lstD, tupD, sFor, dLc, dDc, wipeE, tYesD, dIndex, dSort, dDictZip, dMeth, dFld, dMk, List.map_cons, List.map_nil, List.length_cons, List.length_nil, List.replicate_succ, List.replicate_zero, List.cons_append, List.nil_append, List.append_nil, List.getElem?_cons_zero, List.getElem?_cons_succ, List.set_cons_zero, List.set_cons_succ, Option.bind_some, Option.map_some, Nat.reduceSub, Nat.reduceAdd, kwP, List.getD_cons_zero, List.getD_cons_succ, lenD, if_pos hbs, bEq_i, bAdd_i]
    refine ⟨_, rfl, by decide, by decide, fun r2 _ _ => ite2 (fun c4 => ?_) (fun c4 => ?_)⟩
    · -- one letter, again and again
      refine ⟨by omega, by omega, ?_⟩
      have hm : ∀ k : Nat, ((bs.length : Int) + 7 * (0 + (k : Nat))) % 26 = ((bs.length + 7 * k) % 26 : Nat) := fun k => by omega
      have hm2 : ∀ k : Nat, 1 + ((bs.length : Int) + 5 * (0 + (k : Nat))) % 4 = ((1 + (bs.length + 5 * k) % 4 : Nat) : Int) := fun k => by omega
      refine comp_map (fun k : Nat => D.int (0 + (k : Nat))) (fun k => D.str (PySem.Txt.mul ⟨#[97 + (bs.length + 7 * k) % 26]⟩ ((1 + (bs.length + 5 * k) % 4 : Nat) : Int))) (List.range n.toNat) [] (fun k hk Q Z hQ => ?_) (by simp; omega) ?_
      · simp only [dC, dV, dB, dO2, ob_some, dT, dAndT, dOrT, dNotT, dIf, dAndV, dOrV, dNotV, dChain, aNil, aCons, dTup, dLst, dCut, oNone, oSome, dRev, dNeg, dTru, dCa, dIs, dIsA, dCall, dCallK, sNil, sSeq, sNever, sBrk, sCont, sIf, sRet, sRetO, sRetE, sSet, sSetO, sDrop, sPar, sPar3, kn, enOf, owD, sAsg, gNm, gsNil, gsCons, gTp, sApp, sIns, sExt, sClr, sRev, sPut, sFrz, owAt, fin, st, iRng, iRngB, iSeq, lstD, tupD, sFor, dLc, dDc, wipeE, tYesD, dIndex, dSort, dDictZip, dMeth, dFld, dMk, List.map_cons, List.map_nil, List.length_cons, List.length_nil, List.replicate_succ, List.replicate_zero, List.cons_append, List.nil_append, List.append_nil, List.getElem?_cons_zero, List.getElem?_cons_succ, List.set_cons_zero, List.set_cons_succ, Option.bind_some, Option.map_some, Nat.reduceSub, Nat.reduceAdd, kwP, List.getD_cons_zero, List.getD_cons_succ, lenD, if_pos hbs, bAdd_i, bMod_i (show (0 : Int) < 26 by decide), bMod_i (show (0 : Int) < 4 by decide), bMul_i (show (-(2 ^ 64) : Int) < 7 by decide) (by decide), bMul_i (show (-(2 ^ 64) : Int) < 5 by decide) (by decide), hm, hm2, bIx_abc (Nat.mod_lt _ (by decide)), if_true]
        have e : bMul (.str ⟨#[97 + (bs.length + 7 * k) % 26]⟩) (.int ((1 + (bs.length + 5 * k) % 4 : Nat) : Int)) = some (.str (PySem.Txt.mul ⟨#[97 + (bs.length + 7 * k) % 26]⟩ ((1 + (bs.length + 5 * k) % 4 : Nat) : Int))) := by
          show (none : Option D).or ((none : Option D).or (if 1 ≤ ((1 + (bs.length + 5 * k) % 4 : Nat) : Int) ∧ ((1 + (bs.length + 5 * k) % 4 : Nat) : Int) ≤ 1000 then some _ else none)) = _
          rw [if_pos ⟨by omega, by omega⟩]
          rfl
        rw [e]
        exact hQ
      · rw [List.nil_append, show (fun k => D.str (PySem.Txt.mul ⟨#[97 + (bs.length + 7 * k) % 26]⟩ ((1 + (bs.length + 5 * k) % 4 : Nat) : Int))) = D.str ∘ fun k => PySem.Txt.mul ⟨#[97 + (bs.length + 7 * k) % 26]⟩ ((1 + (bs.length + 5 * k) % 4 : Nat) : Int) from rfl, ← List.map_map]
        refine q _ (by simp) (fun z hz => ?_) (nodup_map_range fun i j hi hj e => ?_)
        · obtain ⟨k, _, rfl⟩ := List.mem_map.mp hz
          obtain ⟨m, h1, h2⟩ := mul_codes (97 + (bs.length + 7 * k) % 26) (1 + (bs.length + 5 * k) % 4) (by omega)
          have hl2 : (PySem.Txt.mul ⟨#[97 + (bs.length + 7 * k) % 26]⟩ ((1 + (bs.length + 5 * k) % 4 : Nat) : Int)).length = m := by rw [str_len, h1, List.length_replicate]
          refine ⟨by omega, by omega, fun c hc => ?_⟩
          rw [h1] at hc
          have := (List.mem_replicate.mp hc).2
          unfold Low
          omega
        · obtain ⟨m, h1, h2⟩ := mul_codes (97 + (bs.length + 7 * i) % 26) (1 + (bs.length + 5 * i) % 4) (by omega)
          obtain ⟨m2, h3, h4⟩ := mul_codes (97 + (bs.length + 7 * j) % 26) (1 + (bs.length + 5 * j) % 4) (by omega)
          have e2 : List.replicate m (97 + (bs.length + 7 * i) % 26) = List.replicate m2 (97 + (bs.length + 7 * j) % 26) := by rw [← h1, ← h3, e]
          have e3 : (97 + (bs.length + 7 * i) % 26) ∈ List.replicate m2 (97 + (bs.length + 7 * j) % 26) := by rw [← e2]; exact List.mem_replicate.mpr ⟨by omega, rfl⟩
          have := (List.mem_replicate.mp e3).2
          omega
    · refine ⟨_, rfl, by omega, by omega, fun sp s0 s1 => ⟨_, rfl, by decide, by decide, fun fi f0 f1 => ⟨by decide, .inl ⟨_, .inl rfl, by decide, by decide, fun x hx => ?_⟩⟩⟩⟩
      obtain ⟨w, rfl, hw⟩ : ∃ w : Nat, x = .int (w : Int) ∧ (w = 1 ∨ w = 3 ∨ w = 5 ∨ w = 7 ∨ w = 9) := by
        simp only [List.mem_cons, List.not_mem_nil, or_false] at hx
        rcases hx with rfl | rfl | rfl | rfl | rfl
        · exact ⟨1, rfl, by omega⟩
        · exact ⟨3, rfl, by omega⟩
        · exact ⟨5, rfl, by omega⟩
        · exact ⟨7, rfl, by omega⟩
        · exact ⟨9, rfl, by omega⟩
      obtain ⟨sp, rfl⟩ : ∃ j : Nat, sp = (j : Int) := ⟨sp.toNat, by omega⟩
      obtain ⟨fi, rfl⟩ : ∃ j : Nat, fi = (j : Int) := ⟨fi.toNat, by omega⟩
      refine ⟨by decide, trivial, trivial, by omega, by omega, ?_⟩
      have hm : ∀ k : Nat, ((fi : Int) + (w : Int) * (0 + (k : Nat))) % 26 = ((fi + w * k) % 26 : Nat) := fun k => by
        rw [Int.zero_add]
        norm_cast
      have c1 : cutA (.str bs) none (some (sp : Int)) = some (.str (cutS bs none (some (sp : Int)))) := if_pos hbs
      have c2 : cutA (.str bs) (some (sp : Int)) none = some (.str (cutS bs (some (sp : Int)) none)) := if_pos hbs
      have k1 : (cutS bs none (some (sp : Int))).cps.toList = bs.cps.toList.take sp := by
        rw [cut_codes, HT.sIx_none, HT.sIx_nat, List.drop_zero, Nat.sub_zero]
        exact congrArg (fun m => List.take m bs.cps.toList) (by omega)
      have k2 : (cutS bs (some (sp : Int)) none).cps.toList = bs.cps.toList.drop sp := by
        rw [cut_codes, HT.sIx_none, HT.sIx_nat]
        have : min sp bs.length = sp := by omega
        rw [this]
        exact List.take_of_length_le (by rw [List.length_drop, ← str_len]; exact Nat.le_refl _)
      have l1 : (cutS bs none (some (sp : Int))).length = sp := by rw [str_len, k1, List.length_take, ← str_len]; omega
      have l2 : (cutS bs (some (sp : Int)) none).length = bs.length - sp := by rw [str_len, k2, List.length_drop, ← str_len]
      have codes : ∀ k : Nat, (cutS bs none (some (sp : Int)) ++ ⟨#[97 + (fi + w * k) % 26]⟩ ++ cutS bs (some (sp : Int)) none).cps.toList = bs.cps.toList.take sp ++ [97 + (fi + w * k) % 26] ++ bs.cps.toList.drop sp := fun k => by
        rw [app_codes, app_codes, k1, k2]
      refine comp_map (fun k : Nat => D.int (0 + (k : Nat))) (fun k => D.str (cutS bs none (some (sp : Int)) ++ ⟨#[97 + (fi + w * k) % 26]⟩ ++ cutS bs (some (sp : Int)) none)) (List.range n.toNat) [] (fun k hk Q Z hQ => ?_) (by simp; omega) ?_
      · simp only [dC, dV, dB, dO2, ob_some, dT, dAndT, dOrT, dNotT, dIf, dAndV, dOrV, dNotV, dChain, aNil, aCons, dTup, dLst, dCut, oNone, oSome, dRev, dNeg, dTru, dCa, dIs, dIsA, dCall, dCallK, sNil, sSeq, sNever, sBrk, sCont, sIf, sRet, sRetO, sRetE, sSet, sSetO, sDrop, sPar, sPar3, kn, enOf, owD, sAsg, gNm, gsNil, gsCons, gTp, sApp, sIns, sExt, sClr, sRev, sPut, sFrz, owAt, fin, st, iRng, iRngB, iSeq, lstD, tupD, sFor, dLc, dDc, wipeE, tYesD, dIndex, dSort, dDictZip, dMeth, dFld, dMk, List.map_cons, List.map_nil, List.length_cons, List.length_nil, List.replicate_succ, List.replicate_zero, List.cons_append, List.nil_append, List.append_nil, List.getElem?_cons_zero, List.getElem?_cons_succ, List.set_cons_zero, List.set_cons_succ, Option.bind_some, Option.map_some, Nat.reduceSub, Nat.reduceAdd, kwP, List.getD_cons_zero, List.getD_cons_succ, c1, c2, bMul_i (show (-(2 ^ 64) : Int) < (w : Int) by omega) (show (w : Int) < 2 ^ 64 by omega), bAdd_i, bMod_i (show (0 : Int) < 26 by decide), hm, bIx_abc (Nat.mod_lt _ (by decide)), if_true]
        rw [bAdd_s (by rw [one_len, l1]; exact Nat.le_of_lt (szM (by omega))), ob_some, bAdd_s (by rw [str_len, app_codes, List.length_append, ← str_len, l1, l2]; exact Nat.le_of_lt (szM (by show sp + 1 + (bs.length - sp) ≤ _; omega)))]
        exact hQ
      · rw [List.nil_append, show (fun k => D.str (cutS bs none (some (sp : Int)) ++ ⟨#[97 + (fi + w * k) % 26]⟩ ++ cutS bs (some (sp : Int)) none)) = D.str ∘ fun k => cutS bs none (some (sp : Int)) ++ ⟨#[97 + (fi + w * k) % 26]⟩ ++ cutS bs (some (sp : Int)) none from rfl, ← List.map_map]
        refine q _ (by simp) (fun z hz => ?_) (nodup_map_range fun i j hi hj e => ?_)
        · obtain ⟨k, _, rfl⟩ := List.mem_map.mp hz
          have hl2 : (cutS bs none (some (sp : Int)) ++ ⟨#[97 + (fi + w * k) % 26]⟩ ++ cutS bs (some (sp : Int)) none).length = bs.length + 1 := by
            rw [str_len, codes, List.length_append, List.length_append, List.length_take, List.length_drop, ← str_len]
            simp
            omega
          refine ⟨by omega, by omega, fun c hc' => ?_⟩
          rw [codes, List.append_assoc] at hc'
          rcases List.mem_append.mp hc' with h | h
          · exact hc c (List.mem_of_mem_take h)
          · rcases List.mem_append.mp h with h | h
            · have := List.mem_singleton.mp h
              unfold Low
              omega
            · exact hc c (List.mem_of_mem_drop h)
        · have e2 : bs.cps.toList.take sp ++ [97 + (fi + w * i) % 26] ++ bs.cps.toList.drop sp = bs.cps.toList.take sp ++ [97 + (fi + w * j) % 26] ++ bs.cps.toList.drop sp := by rw [← codes, ← codes, e]
          rw [List.append_assoc, List.append_assoc] at e2
          have e3 := (List.cons.inj (List.append_cancel_left e2)).1
          rcases hw with rfl | rfl | rfl | rfl | rfl <;> omega
end DL
namespace DL
open PySem PySem.Spec PyProof.Rows L2 RK
mutual
def toP : D → PyData
  | .non => .none
  | .bl b => .bool b
  | .int i => .int i
  | .str x => .str x
  | .lst xs => .list (toPA xs)
  | .tup xs => .tuple (toPA xs)
  | _ => .none
def toPA : List D → List PyData
  | [] => []
  | x :: xs => toP x :: toPA xs
end
def sh : Nat → D → Bool
  | _, .non => true
  | _, .int _ => true
  | _, .str x => PyData.strOk x
  | n + 1, .lst xs => xs.all (sh n)
  | n + 1, .tup xs => xs.all (sh n)
  | _, _ => false
theorem sh_py : ∀ (n : Nat) (x : D), sh n x = true → toPy x = some (toP x) ∧ (toP x).canLay0 = true ∧ (toP x).depth ≤ n := by
  have lists : ∀ (n : Nat), (∀ x : D, sh n x = true → toPy x = some (toP x) ∧ (toP x).canLay0 = true ∧ (toP x).depth ≤ n) → ∀ xs : List D, xs.all (sh n) = true → toPyA xs = some (toPA xs) ∧ PyData.canLayAll0 (toPA xs) = true ∧ PyData.depthAll (toPA xs) ≤ n := by
    intro n ih xs
    induction xs with
    | nil => intro _; exact ⟨rfl, rfl, Nat.zero_le _⟩
    | cons x xs ihx =>
      intro h
      rw [List.all_cons, Bool.and_eq_true] at h
      obtain ⟨h1, h2, h3⟩ := ih x h.1
      obtain ⟨g1, g2, g3⟩ := ihx h.2
      refine ⟨?_, ?_, ?_⟩
      · show (toPy x).bind _ = _
        rw [h1]
        show (toPyA xs).map _ = _
        rw [g1]
        rfl
      · show (PyData.canLay0 (toP x) && PyData.canLayAll0 (toPA xs)) = true
        rw [h2, g2]
        rfl
      · show max (PyData.depth (toP x)) (PyData.depthAll (toPA xs)) ≤ n
        omega
  intro n
  induction n with
  | zero =>
    intro x h
    cases x with
    | non => exact ⟨rfl, rfl, Nat.le_refl _⟩
    | int i => exact ⟨rfl, rfl, Nat.le_refl _⟩
    | str z => exact ⟨rfl, h, Nat.le_refl _⟩
    | _ => cases h
  | succ n ih =>
    intro x h
    cases x with
    | non => exact ⟨rfl, rfl, Nat.zero_le _⟩
    | int i => exact ⟨rfl, rfl, Nat.zero_le _⟩
    | str z => exact ⟨rfl, h, Nat.zero_le _⟩
    | lst xs =>
      obtain ⟨h1, h2, h3⟩ := lists n ih xs h
      refine ⟨?_, h2, ?_⟩
      · show (toPyA xs).map _ = _
        rw [h1]
        rfl
      · show PyData.depthAll (toPA xs) + 1 ≤ n + 1
        omega
    | tup xs =>
      obtain ⟨h1, h2, h3⟩ := lists n ih xs h
      refine ⟨?_, h2, ?_⟩
      · show (toPyA xs).map _ = _
        rw [h1]
        rfl
      · show PyData.depthAll (toPA xs) + 1 ≤ n + 1
        omega
    | _ => cases h
theorem eqv_iff : ∀ (n : Nat) (x y : D), sh n x = true → sh n y = true → (PyData.eqv (toP x) (toP y) = true ↔ x = y) := by
  have lists : ∀ (n : Nat), (∀ x y : D, sh n x = true → sh n y = true → (PyData.eqv (toP x) (toP y) = true ↔ x = y)) → ∀ xs ys : List D, xs.all (sh n) = true → ys.all (sh n) = true → (PyData.eqvAll (toPA xs) (toPA ys) = true ↔ xs = ys) := by
    intro n ih xs
    induction xs with
    | nil =>
      intro ys _ _
      cases ys with
      | nil => exact ⟨fun _ => rfl, fun _ => rfl⟩
      | cons y ys => exact ⟨fun h => (by cases h), fun h => (by cases h)⟩
    | cons x xs ihx =>
      intro ys hx hy
      cases ys with
      | nil => exact ⟨fun h => (by cases h), fun h => (by cases h)⟩
      | cons y ys =>
        rw [List.all_cons, Bool.and_eq_true] at hx hy
        have h1 := ih x y hx.1 hy.1
        have h2 := ihx ys hx.2 hy.2
        show (PyData.eqv (toP x) (toP y) && PyData.eqvAll (toPA xs) (toPA ys)) = true ↔ _
        rw [Bool.and_eq_true, h1, h2]
        exact ⟨fun ⟨a, b⟩ => by rw [a, b], fun h => ⟨(List.cons.inj h).1, (List.cons.inj h).2⟩⟩
  intro n
  induction n with
  | zero =>
    intro x y hx hy
    cases x <;> try cases hx
    all_goals cases y <;> try cases hy
    all_goals simp [toP, PyData.eqv]
  | succ n ih =>
    intro x y hx hy
    cases x <;> try cases hx
    all_goals cases y <;> try cases hy
    any_goals (simp [toP, PyData.eqv]; done)
    · rename_i xs ys
      have := lists n ih xs ys hx hy
      simp only [toP, PyData.eqv, D.lst.injEq]
      exact this
    · rename_i xs ys
      have := lists n ih xs ys hx hy
      simp only [toP, PyData.eqv, D.tup.injEq]
      exact this
theorem shaped_of {n : Nat} {x : D} (hn : n ≤ 64) (h : sh n x = true) : SeqAt.shaped (toP x) = true := by
  obtain ⟨_, h2, h3⟩ := sh_py n x h
  unfold SeqAt.shaped
  rw [h2, Bool.true_and]
  exact decide_eq_true (by omega)
theorem eqS_iff {neg : Bool} {x y z : D} (h : eqS neg x y = some z) : ∃ b, z = .bl (neg ^^ b) ∧ (b = true ↔ x = y) := by
  cases x <;> try cases h
  all_goals cases y <;> try cases h
  · exact ⟨_, rfl, by rw [decide_eq_true_eq]; exact ⟨fun h => by rw [h], fun h => by cases h; rfl⟩⟩
  · exact ⟨_, rfl, by rw [decide_eq_true_eq]; exact ⟨fun h => by rw [h], fun h => by cases h; rfl⟩⟩
  · exact ⟨_, rfl, by rw [decide_eq_true_eq]; exact ⟨fun h => by rw [h], fun h => by cases h; rfl⟩⟩
theorem beq_iff {neg : Bool} {n : Nat} {x y : D} (hn : n ≤ 64) (hx : sh n x = true) (hy : sh n y = true) : ∃ b, bEqN neg x y = some (.bl (neg ^^ b)) ∧ (b = true ↔ x = y) := by
  cases e : eqS neg x y with
  | some z =>
    obtain ⟨b, rfl, h⟩ := eqS_iff e
    exact ⟨b, by unfold bEqN; rw [e]; rfl, h⟩
  | none =>
    refine ⟨PyData.eqv (toP x) (toP y), ?_, eqv_iff n x y hx hy⟩
    unfold bEqN
    rw [e]
    show eqP neg x y = _
    unfold eqP
    rw [(sh_py n x hx).1, (sh_py n y hy).1]
    exact if_pos ⟨shaped_of hn hx, shaped_of hn hy⟩
theorem beq_ob {neg : Bool} {n : Nat} {x y : D} {P : D → Prop} (hn : n ≤ 64) (hx : sh n x = true) (hy : sh n y = true) (h1 : x = y → P (.bl (!neg))) (h2 : x ≠ y → P (.bl neg)) : ob (bEqN neg x y) P := by
  obtain ⟨b, e, h⟩ := beq_iff (neg := neg) hn hx hy
  rw [e]
  cases b with
  | true => have := h1 (h.mp rfl); cases neg <;> exact this
  | false => have := h2 (fun z => by have := h.mpr z; cases this); cases neg <;> exact this
theorem name_ok {z : Str} (h : NameOk z) : PyData.strOk z = true := by
  unfold PyData.strOk
  rw [← Array.all_toList, List.all_eq_true]
  intro c hc
  have := h.2.2 c hc
  unfold Low at this
  exact decide_eq_true (by omega)
theorem sh_names {n : Nat} {zs : List Str} (h : ∀ z ∈ zs, NameOk z) : sh (n + 1) (.lst (zs.map D.str)) = true := by
  show (zs.map D.str).all (sh n) = true
  rw [List.all_eq_true]
  intro d hd
  obtain ⟨z, hz, rfl⟩ := List.mem_map.mp hd
  have := name_ok (h z hz)
  cases n <;> exact this
end DL
namespace DL
open PySem PySem.Spec PyProof.Rows L2 RK
abbrev Win := Str × R
def wk (w : Win) : Key × D := (Sum.inr w.1, rectD w.2)
def winD (ws : List Win) : D := .dic (ws.map wk)
def nms (ws : List Win) : List Str := ws.map (·.1)
structure WOk (ws : List Win) : Prop where
  nd : (nms ws).Nodup
  nm : ∀ w ∈ ws, NameOk w.1
  gd : ∀ w ∈ ws, w.2.good
def Sm (p : R) : Prop := p.good ∧ p.r - p.l ≤ 400000000 ∧ p.b - p.t ≤ 400000000
def WSm (ws : List Win) : Prop := ∀ w ∈ ws, Sm w.2
theorem sm_scaled {c x y x2 y2 : Int} (c0 : 1 ≤ c) (c1 : c ≤ 100000000) (a1 : -4 ≤ x) (a2 : x ≤ 4) (a3 : -4 ≤ y) (a4 : y ≤ 4) (a5 : x < x2) (a6 : x2 ≤ x + 4) (a7 : y < y2) (a8 : y2 ≤ y + 4) : Sm ⟨c * x, c * y, c * x2, c * y2⟩ := by
  refine ⟨good_scaled c0 c1 a1 a2 a3 a4 a5 a6 a7 a8, ?_, ?_⟩
  · show c * x2 - c * x ≤ 400000000
    rw [← Int.mul_sub]
    have h1 : c * (x2 - x) ≤ c * 4 := Int.mul_le_mul_of_nonneg_left (by omega) (by omega)
    omega
  · show c * y2 - c * y ≤ 400000000
    rw [← Int.mul_sub]
    have h1 : c * (y2 - y) ≤ c * 4 := Int.mul_le_mul_of_nonneg_left (by omega) (by omega)
    omega
theorem WOk.perm {ws us : List Win} (h : WOk ws) (p : us.Perm ws) : WOk us := ⟨(p.map _).nodup_iff.mpr h.nd, fun w hw => h.nm w (p.mem_iff.mp hw), fun w hw => h.gd w (p.mem_iff.mp hw)⟩
theorem nodup_inj {α β : Type} {f : α → β} {l : List α} (inj : ∀ a b, f a = f b → a = b) (h : l.Nodup) : (l.map f).Nodup := by
  rw [List.nodup_iff_pairwise_ne, List.pairwise_map]
  exact (List.nodup_iff_pairwise_ne.mp h).imp fun hab e => hab (inj _ _ e)
theorem keys_str : ∀ zs : List Str, keysD (zs.map D.str) = some (zs.map Sum.inr)
  | [] => rfl
  | z :: zs => by
    show (keyD (.str z)).bind (fun k => (keysD (zs.map D.str)).map fun ks => k :: ks) = _
    rw [keys_str zs]
    rfl
theorem perm_str {ys : List D} {zs : List Str} (h : ys.Perm (zs.map D.str)) : ∃ us : List Str, ys = us.map D.str ∧ us.Perm zs := by
  have key : ∀ (ys : List D), (∀ y ∈ ys, ∃ z, y = D.str z) → ∃ us : List Str, ys = us.map D.str := by
    intro ys
    induction ys with
    | nil => intro _; exact ⟨[], rfl⟩
    | cons y ys ih =>
      intro h
      obtain ⟨z, rfl⟩ := h y List.mem_cons_self
      obtain ⟨us, rfl⟩ := ih fun w hw => h w (List.mem_cons_of_mem _ hw)
      exact ⟨z :: us, rfl⟩
  obtain ⟨us, rfl⟩ := key ys fun y hy => by
    obtain ⟨z, _, e⟩ := List.mem_map.mp (h.mem_iff.mp hy)
    exact ⟨z, e.symm⟩
  refine ⟨us, rfl, ?_⟩
  have h2 := h.map fun d => match d with | D.str z => z | _ => Str.empty
  rw [List.map_map, List.map_map] at h2
  have e : ((fun d => match d with | D.str z => z | _ => Str.empty) ∘ D.str) = id := rfl
  rw [e, List.map_id, List.map_id] at h2
  exact h2
theorem bPow_i {i j : Int} (h : 0 ≤ j ∧ j ≤ 1000000 ∧ i.natAbs < 2 ^ 64) : bPow (.int i) (.int j) = some (.int (i ^ j.toNat)) := by
  show (if decide _ = true then some (D.int (i ^ j.toNat)) else none) = _
  rw [if_pos (decide_eq_true h)]
theorem rects_of {us : List Str} {rs : List D} (h : Paired (fun (_ : Str) d => ∃ p : R, d = rectD p ∧ Sm p) us rs) : ∃ ps : List R, rs = ps.map rectD ∧ ps.length = us.length ∧ ∀ p ∈ ps, Sm p := by
  induction h with
  | nil => exact ⟨[], rfl, rfl, fun p hp => by cases hp⟩
  | cons h t ih =>
    obtain ⟨p, rfl, gp⟩ := h
    obtain ⟨ps, rfl, h2, h3⟩ := ih
    refine ⟨p :: ps, rfl, by simp [h2], fun p' hp' => ?_⟩
    rcases List.mem_cons.mp hp' with rfl | h
    · exact gp
    · exact h3 p' h
def sp_windows : DSp := fun ds P => ∃ lo hi : Int, ds = [.bag, .int lo, .int hi] ∧ 1 ≤ lo ∧ lo ≤ hi ∧ hi ≤ 24 ∧ ∀ ws : List Win, WOk ws → WSm ws → lo ≤ ws.length → (ws.length : Int) ≤ hi → P (winD ws)
def d_windows : TDS := (sSeq (sSet 3 (dCall sp_mixed (aCons (dV 0) (aCons (dCall sp_names (aCons (dV 0) (aCons (dO2 bAdd (dV 1) (dCall sp_pull (aCons (dV 0) (aCons (dO2 bAdd (dO2 bSub (dV 2) (dV 1)) (dC (.int 1))) aNil)))) aNil))) aNil))))
  (sSeq (sAsg (dTup (aCons (dCall sp_of (aCons (dV 0) (aCons (dLst (aCons (dC (.int 1)) (aCons (dC (.int 1)) (aCons (dC (.int 3)) (aCons (dO2 bPow (dC (.int 10)) (dC (.int 8))) aNil))))) aNil))) (aCons (dCall sp_pull (aCons (dV 0) (aCons (dC (.int 4)) aNil))) aNil))) (gTp 2 (gsCons (gNm 4) (gsCons (gNm 5) gsNil))))
  (sSeq (sSet 6 (dCall sp_rectangle (aCons (dV 0) (aCons (dV 4) aNil))))
  (sSeq (sSet 7 (dLc (iSeq (dV 3)) (gNm 8) tYesD (dIf (dOrT (dT (dO2 (bEqN false) (dV 5) (dC (.int 0)))) (dAndT (dT (dO2 (bEqN false) (dV 5) (dC (.int 1)))) (dT (dO2 (bEqN false) (dCall sp_pull (aCons (dV 0) (aCons (dC (.int 2)) aNil))) (dC (.int 0)))))) (dV 6) (dCall sp_rectangle (aCons (dV 0) (aCons (dV 4) aNil)))) [8]))
  (sRet (dDictZip (aCons (dV 3) (aCons (dV 7) aNil))))))))
theorem rd_windows {ds : List D} {P : D → Prop} (h : sp_windows ds P) : d_windows (fin true P) (st 9 ds) := by
  obtain ⟨lo, hi, rfl, l0, l1, l2, q⟩ := h
  have ep : bPow (.int 10) (.int 8) = some (.int 100000000) := bPow_i (by decide)
  simp only [d_windows, dC, dV, dB, dO2, ob_some, dT, dAndT, dOrT, dNotT, dIf, dAndV, dOrV, dNotV, dChain, aNil, aCons, dTup, dLst, dCut, oNone, oSome, dRev, dNeg, dTru, dCa, dIs, dIsA, dCall, dCallK, sNil, sSeq, sNever, sBrk, sCont, sIf, sRet, sRetO, sRetE, sSet, sSetO, sDrop, sPar, sPar3, kn, enOf, owD, sAsg, gNm, gsNil, gsCons, gTp, sApp, sIns, sExt, sClr, sRev, sPut, sFrz, owAt, fin, st, iRng, iRngB, iSeq, lstD, tupD, sFor, dLc, dDc, wipeE, tYesD, dIndex, dSort, dDictZip, dMeth, dFld, dMk, List.map_cons, List.map_nil, List.length_cons, List.length_nil, List.replicate_succ, List.replicate_zero, List.cons_append, List.nil_append, List.append_nil, List.getElem?_cons_zero, List.getElem?_cons_succ, List.set_cons_zero, List.set_cons_succ, Option.bind_some, Option.map_some, Nat.reduceSub, Nat.reduceAdd, kwP, List.getD_cons_zero, List.getD_cons_succ, bAdd_i, bSub, iI0, ep]
  refine ⟨_, rfl, by omega, by omega, fun r r0 r1 => ⟨_, rfl, by omega, by omega, fun zs hl hz nd => ⟨_, .inl rfl, by rw [List.length_map]; omega, fun ys hp0 => ?_⟩⟩⟩
  obtain ⟨us, rfl, hp⟩ := perm_str hp0
  have hlu : us.length = (lo + r).toNat := by rw [hp.length_eq, hl]
  refine ⟨by decide, .inl ⟨_, .inl rfl, by decide, by decide, fun x hx => ?_⟩⟩
  obtain ⟨c, rfl, c1, c2⟩ : ∃ c : Int, x = .int c ∧ 1 ≤ c ∧ c ≤ 100000000 := by
    simp only [List.mem_cons, List.not_mem_nil, or_false] at hx
    rcases hx with rfl | rfl | rfl | rfl
    · exact ⟨1, rfl, by decide, by decide⟩
    · exact ⟨1, rfl, by decide, by decide⟩
    · exact ⟨3, rfl, by decide, by decide⟩
    · exact ⟨_, rfl, by decide, by decide⟩
  refine ⟨_, rfl, by decide, by decide, fun w w0 w1 => ⟨by decide, trivial, trivial, ?_⟩⟩
  have good : ∀ x y x2 y2 : Int, -4 ≤ x → x ≤ 4 → -4 ≤ y → y ≤ 4 → x < x2 → x2 ≤ x + 4 → y < y2 → y2 ≤ y + 4 → Sm ⟨c * x, c * y, c * x2, c * y2⟩ := fun x y x2 y2 a1 a2 a3 a4 a5 a6 a7 a8 => sm_scaled c1 c2 a1 a2 a3 a4 a5 a6 a7 a8
  refine ⟨c, rfl, c1, c2, fun x y x2 y2 a1 a2 a3 a4 a5 a6 a7 a8 => ?_⟩
  have g0 := good x y x2 y2 a1 a2 a3 a4 a5 a6 a7 a8
  refine .inl ?_
  refine comp_all D.str (fun _ d => ∃ p : R, d = rectD p ∧ Sm p) us [] (fun z hz Q Z hQ => ?_) (by simp; omega) (fun rs hrs => ?_)
  · simp only [dC, dV, dB, dO2, ob_some, dT, dAndT, dOrT, dNotT, dIf, dAndV, dOrV, dNotV, dChain, aNil, aCons, dTup, dLst, dCut, oNone, oSome, dRev, dNeg, dTru, dCa, dIs, dIsA, dCall, dCallK, sNil, sSeq, sNever, sBrk, sCont, sIf, sRet, sRetO, sRetE, sSet, sSetO, sDrop, sPar, sPar3, kn, enOf, owD, sAsg, gNm, gsNil, gsCons, gTp, sApp, sIns, sExt, sClr, sRev, sPut, sFrz, owAt, fin, st, iRng, iRngB, iSeq, lstD, tupD, sFor, dLc, dDc, wipeE, tYesD, dIndex, dSort, dDictZip, dMeth, dFld, dMk, List.map_cons, List.map_nil, List.length_cons, List.length_nil, List.replicate_succ, List.replicate_zero, List.cons_append, List.nil_append, List.append_nil, List.getElem?_cons_zero, List.getElem?_cons_succ, List.set_cons_zero, List.set_cons_succ, Option.bind_some, Option.map_some, Nat.reduceSub, Nat.reduceAdd, kwP, List.getD_cons_zero, List.getD_cons_succ, bEq_i, if_true]
    have yes : Q (rectD ⟨c * x, c * y, c * x2, c * y2⟩) := hQ _ ⟨_, rfl, g0⟩
    have no : sp_rectangle [.bag, .int c] Q := ⟨c, rfl, c1, c2, fun x y x2 y2 a1 a2 a3 a4 a5 a6 a7 a8 => hQ _ ⟨_, rfl, good x y x2 y2 a1 a2 a3 a4 a5 a6 a7 a8⟩⟩
    refine ite2 (fun _ => yes) (fun _ => ite2 (fun _ => ⟨_, rfl, by decide, by decide, fun v _ _ => ite2 (fun _ => yes) (fun _ => no)⟩) (fun _ => ?_))
    exact no
  · obtain ⟨ps, rfl, hps, hg⟩ := rects_of hrs
    simp only [dC, dV, dB, dO2, ob_some, dT, dAndT, dOrT, dNotT, dIf, dAndV, dOrV, dNotV, dChain, aNil, aCons, dTup, dLst, dCut, oNone, oSome, dRev, dNeg, dTru, dCa, dIs, dIsA, dCall, dCallK, sNil, sSeq, sNever, sBrk, sCont, sIf, sRet, sRetO, sRetE, sSet, sSetO, sDrop, sPar, sPar3, kn, enOf, owD, sAsg, gNm, gsNil, gsCons, gTp, sApp, sIns, sExt, sClr, sRev, sPut, sFrz, owAt, fin, st, iRng, iRngB, iSeq, lstD, tupD, sFor, dLc, dDc, wipeE, tYesD, dIndex, dSort, dDictZip, dMeth, dFld, dMk, List.map_cons, List.map_nil, List.length_cons, List.length_nil, List.replicate_succ, List.replicate_zero, List.cons_append, List.nil_append, List.append_nil, List.getElem?_cons_zero, List.getElem?_cons_succ, List.set_cons_zero, List.set_cons_succ, Option.bind_some, Option.map_some, Nat.reduceSub, Nat.reduceAdd, kwP, List.getD_cons_zero, List.getD_cons_succ, keys_str]
    refine ⟨by simp [hps], ?_⟩
    have e : (us.map (Sum.inr : Str → Key)).zip (ps.map rectD) = (us.zip ps).map wk := by
      rw [List.zip_map]
      rfl
    have nmz : nms (us.zip ps) = us := List.map_fst_zip (by omega)
    rw [e, mergeD_new _ [] (by
      rw [List.nil_append, List.map_map]
      have : ((fun kd : Key × D => kd.1) ∘ wk) = Sum.inr ∘ (fun w : Win => w.1) := rfl
      rw [this, ← List.map_map]
      refine nodup_inj (fun a b h => Sum.inr.inj h) ?_
      show (nms (us.zip ps)).Nodup
      rw [nmz]
      exact hp.nodup_iff.mpr nd), List.nil_append]
    refine q (us.zip ps) ⟨by rw [nmz]; exact hp.nodup_iff.mpr nd, fun v hv => hz _ (hp.mem_iff.mp (List.of_mem_zip hv).1), fun v hv => (hg _ (List.of_mem_zip hv).2).1⟩ (fun v hv => hg _ (List.of_mem_zip hv).2) ?_ ?_
    · rw [List.length_zip]
      omega
    · rw [List.length_zip]
      omega
end DL
namespace DL
open PySem PySem.Spec PyProof.Rows L2 RK
instance (p : R) : Decidable p.good := by unfold R.good; infer_instance
instance (p : R) (x y : Int) : Decidable (p.has x y) := by unfold R.has; infer_instance
instance (c : Nat) : Decidable (Low c) := by unfold Low; infer_instance
instance (z : Str) : Decidable (NameOk z) := by unfold NameOk; infer_instance
theorem is_tt {xs : List D} : isD "tuple" (.tup xs) = some true := (by decide +kernel : kitB "tuple" "tuple" = some true)
theorem is_ii {i : Int} : isD "int" (.int i) = some true := (by decide +kernel : kitB "int" "int" = some true)
theorem is_ss {z : Str} : isD "str" (.str z) = some true := (by decide +kernel : kitB "str" "str" = some true)
theorem bNe_i (i j : Int) : bEqN true (.int i) (.int j) = some (.bl (!decide (i = j))) := by
  show (some (D.bl (true ^^ decide (i = j)))).or _ = _
  rw [Bool.true_xor]
  rfl
theorem bLe_i (i j : Int) : bLe (.int i) (.int j) = some (.bl (decide (i ≤ j))) := rfl
theorem bLt_i (i j : Int) : bLt (.int i) (.int j) = some (.bl (decide (i < j))) := rfl
theorem iLt_i (i j : Int) : iI0 (fun i j => D.bl (decide (i < j))) (.int i) (.int j) = some (.bl (decide (i < j))) := rfl
def sp_has_four_numbers : DSp := fun ds P => ∃ r : R, ds = [rectD r] ∧ P (.bl true)
def d_has_four_numbers : TDS := (sSeq (sIf (dOrT (dNotT (dT (dIs "tuple" (dV 0)))) (dT (dO2 (bEqN true) (dCa lenD (aCons (dV 0) aNil)) (dC (.int 4))))) (sRet (dC (.bl false))) sNil)
  (sRet (dCa allD (aCons (dLc (iSeq (dV 0)) (gNm 1) tYesD (dIs "int" (dV 1)) [1]) aNil))))
theorem rd_has_four_numbers {ds : List D} {P : D → Prop} (h : sp_has_four_numbers ds P) : d_has_four_numbers (fin false P) (st 2 ds) := by
  obtain ⟨r, rfl, q⟩ := h
  simp only [d_has_four_numbers, dC, dV, dB, dO2, ob_some, dT, dAndT, dOrT, dNotT, dIf, dAndV, dOrV, dNotV, dChain, aNil, aCons, dTup, dLst, dCut, oNone, oSome, dRev, dNeg, dTru, dCa, dIs, dIsA, dCall, dCallK, sNil, sSeq, sNever, sBrk, sCont, sIf, sRet, sRetO, sRetE, sSet, sSetO, sDrop, sPar, sPar3, kn, enOf, owD, sAsg, gNm, gsNil, gsCons, gTp, sApp, sIns, sExt, sClr, sRev, sPut, sFrz, owAt, fin, st, iRng, iRngB, iSeq, lstD, tupD, sFor, dLc, dDc, wipeE, tYesD, dIndex, dSort, dDictZip, dMeth, dFld, dMk, List.map_cons, List.map_nil, List.length_cons, List.length_nil, List.replicate_succ, List.replicate_zero, List.cons_append, List.nil_append, List.append_nil, List.getElem?_cons_zero, List.getElem?_cons_succ, List.set_cons_zero, List.set_cons_succ, Option.bind_some, Option.map_some, Nat.reduceSub, Nat.reduceAdd, kwP, List.getD_cons_zero, List.getD_cons_succ, rectD, is_tt, lenD, bNe_i, Bool.not_true, Bool.false_eq_true, if_false]
  refine ite2 (fun h => by simp at h) (fun _ => .inr (.inl ?_))
  refine comp_map id (fun _ => D.bl true) [.int r.l, .int r.t, .int r.r, .int r.b] [] (fun x hx Q Z hQ => ?_) (by simp) ?_
  · obtain ⟨i, rfl⟩ : ∃ i, x = .int i := by
      simp only [List.mem_cons, List.not_mem_nil, or_false] at hx
      rcases hx with rfl | rfl | rfl | rfl <;> exact ⟨_, rfl⟩
    simp only [dC, dV, dB, dO2, ob_some, dT, dAndT, dOrT, dNotT, dIf, dAndV, dOrV, dNotV, dChain, aNil, aCons, dTup, dLst, dCut, oNone, oSome, dRev, dNeg, dTru, dCa, dIs, dIsA, dCall, dCallK, sNil, sSeq, sNever, sBrk, sCont, sIf, sRet, sRetO, sRetE, sSet, sSetO, sDrop, sPar, sPar3, kn, enOf, owD, sAsg, gNm, gsNil, gsCons, gTp, sApp, sIns, sExt, sClr, sRev, sPut, sFrz, owAt, fin, st, iRng, iRngB, iSeq, lstD, tupD, sFor, dLc, dDc, wipeE, tYesD, dIndex, dSort, dDictZip, dMeth, dFld, dMk, List.map_cons, List.map_nil, List.length_cons, List.length_nil, List.replicate_succ, List.replicate_zero, List.cons_append, List.nil_append, List.append_nil, List.getElem?_cons_zero, List.getElem?_cons_succ, List.set_cons_zero, List.set_cons_succ, Option.bind_some, Option.map_some, Nat.reduceSub, Nat.reduceAdd, kwP, List.getD_cons_zero, List.getD_cons_succ, id, is_ii, if_true]
    exact hQ
  · exact q
def sp_is_rectangle : DSp := fun ds P => ∃ r : R, ds = [rectD r] ∧ P (.bl (decide r.good))
def d_is_rectangle : TDS := (sSeq (sIf (dNotT (dT (dCall sp_has_four_numbers (aCons (dV 0) aNil)))) (sRet (dC (.bl false))) sNil)
  (sSeq (sAsg (dV 0) (gTp 4 (gsCons (gNm 1) (gsCons (gNm 2) (gsCons (gNm 3) (gsCons (gNm 4) gsNil))))))
  (sSeq (sIf (dNotT (dT (dCa allD (aCons (dLc (iSeq (dV 0)) (gNm 5) tYesD (dChain bLe bLe (dNeg (dC (.int 1000000000))) (dV 5) (dC (.int 1000000000))) [5]) aNil)))) (sRet (dC (.bl false))) sNil)
  (sRet (dAndV (dO2 bLt (dV 1) (dV 3)) (dO2 bLt (dV 2) (dV 4)))))))
theorem rd_is_rectangle {ds : List D} {P : D → Prop} (h : sp_is_rectangle ds P) : d_is_rectangle (fin false P) (st 6 ds) := by
  obtain ⟨r, rfl, q⟩ := h
  simp only [d_is_rectangle, dC, dV, dB, dO2, ob_some, dT, dAndT, dOrT, dNotT, dIf, dAndV, dOrV, dNotV, dChain, aNil, aCons, dTup, dLst, dCut, oNone, oSome, dRev, dNeg, dTru, dCa, dIs, dIsA, dCall, dCallK, sNil, sSeq, sNever, sBrk, sCont, sIf, sRet, sRetO, sRetE, sSet, sSetO, sDrop, sPar, sPar3, kn, enOf, owD, sAsg, gNm, gsNil, gsCons, gTp, sApp, sIns, sExt, sClr, sRev, sPut, sFrz, owAt, fin, st, iRng, iRngB, iSeq, lstD, tupD, sFor, dLc, dDc, wipeE, tYesD, dIndex, dSort, dDictZip, dMeth, dFld, dMk, List.map_cons, List.map_nil, List.length_cons, List.length_nil, List.replicate_succ, List.replicate_zero, List.cons_append, List.nil_append, List.append_nil, List.getElem?_cons_zero, List.getElem?_cons_succ, List.set_cons_zero, List.set_cons_succ, Option.bind_some, Option.map_some, Nat.reduceSub, Nat.reduceAdd, kwP, List.getD_cons_zero, List.getD_cons_succ, rectD]
  refine ⟨r, rfl, ?_⟩
  simp only [Bool.not_true, Bool.false_eq_true, if_false]
  refine ⟨trivial, trivial, .inr (.inl ?_)⟩
  refine comp_map id (fun x => match x with | .int i => D.bl (decide (-1000000000 ≤ i) && decide (i ≤ 1000000000)) | _ => .non) [.int r.l, .int r.t, .int r.r, .int r.b] [] (fun x hx Q Z hQ => ?_) (by simp) ?_
  · obtain ⟨i, rfl⟩ : ∃ i, x = .int i := by
      simp only [List.mem_cons, List.not_mem_nil, or_false] at hx
      rcases hx with rfl | rfl | rfl | rfl <;> exact ⟨_, rfl⟩
    simp only [dC, dV, dB, dO2, ob_some, dT, dAndT, dOrT, dNotT, dIf, dAndV, dOrV, dNotV, dChain, aNil, aCons, dTup, dLst, dCut, oNone, oSome, dRev, dNeg, dTru, dCa, dIs, dIsA, dCall, dCallK, sNil, sSeq, sNever, sBrk, sCont, sIf, sRet, sRetO, sRetE, sSet, sSetO, sDrop, sPar, sPar3, kn, enOf, owD, sAsg, gNm, gsNil, gsCons, gTp, sApp, sIns, sExt, sClr, sRev, sPut, sFrz, owAt, fin, st, iRng, iRngB, iSeq, lstD, tupD, sFor, dLc, dDc, wipeE, tYesD, dIndex, dSort, dDictZip, dMeth, dFld, dMk, List.map_cons, List.map_nil, List.length_cons, List.length_nil, List.replicate_succ, List.replicate_zero, List.cons_append, List.nil_append, List.append_nil, List.getElem?_cons_zero, List.getElem?_cons_succ, List.set_cons_zero, List.set_cons_succ, Option.bind_some, Option.map_some, Nat.reduceSub, Nat.reduceAdd, kwP, List.getD_cons_zero, List.getD_cons_succ, id, bLe_i, if_true]
    cases h1 : decide ((-1000000000 : Int) ≤ i) with
    | true => simp only [h1, Bool.true_and] at hQ; exact hQ
    | false => simp only [h1, Bool.false_and] at hQ; exact hQ
  · show ob (allD [.lst ([decide (-1000000000 ≤ r.l) && decide (r.l ≤ 1000000000), decide (-1000000000 ≤ r.t) && decide (r.t ≤ 1000000000), decide (-1000000000 ≤ r.r) && decide (r.r ≤ 1000000000), decide (-1000000000 ≤ r.b) && decide (r.b ≤ 1000000000)].map D.bl)]) _
    rw [allD_map]
    simp only [ob_some, List.all_cons, List.all_nil, id]
    refine ite2 (fun h => ?_) (fun h => ?_)
    · have : decide r.good = false := by
        rw [decide_eq_false_iff_not]
        rintro ⟨g1, g2, g3, g4, g5, g6, g7, g8, g9, g10⟩
        simp [g1, g2, g3, g4, g5, g6, g7, g8] at h
      rw [this] at q
      exact q
    · simp only [bLt_i, ob_some]
      have hb : -1000000000 ≤ r.l ∧ r.l ≤ 1000000000 ∧ -1000000000 ≤ r.t ∧ r.t ≤ 1000000000 ∧ -1000000000 ≤ r.r ∧ r.r ≤ 1000000000 ∧ -1000000000 ≤ r.b ∧ r.b ≤ 1000000000 := by
        simp at h
        omega
      have e : decide r.good = (decide (r.l < r.r) && decide (r.t < r.b)) := by
        rw [Bool.eq_iff_iff]
        simp only [decide_eq_true_eq, Bool.and_eq_true]
        exact ⟨fun g => ⟨g.2.2.2.2.2.2.2.2.1, g.2.2.2.2.2.2.2.2.2⟩, fun g => ⟨hb.1, hb.2.1, hb.2.2.1, hb.2.2.2.1, hb.2.2.2.2.1, hb.2.2.2.2.2.1, hb.2.2.2.2.2.2.1, hb.2.2.2.2.2.2.2, g.1, g.2⟩⟩
      rw [e] at q
      refine ite2 (fun h1 => ?_) (fun h1 => ?_)
      · rw [h1, Bool.true_and] at q
        exact q
      · rw [Bool.eq_false_iff.mpr h1, Bool.false_and] at q
        exact q
def sp_covers : DSp := fun ds P => ∃ (r : R) (x y : Int), ds = [rectD r, .int x, .int y] ∧ P (.bl (decide (r.has x y)))
def d_covers : TDS := (sSeq (sAsg (dV 0) (gTp 4 (gsCons (gNm 3) (gsCons (gNm 4) (gsCons (gNm 5) (gsCons (gNm 6) gsNil))))))
  (sRet (dAndV (dChain bLe (iI0 fun i j => .bl (decide (i < j))) (dV 3) (dV 1) (dV 5)) (dChain bLe (iI0 fun i j => .bl (decide (i < j))) (dV 4) (dV 2) (dV 6)))))
theorem and4 {a b c d : Prop} [Decidable a] [Decidable b] [Decidable c] [Decidable d] [Decidable (a ∧ b ∧ c ∧ d)] : decide (a ∧ b ∧ c ∧ d) = (decide a && (decide b && (decide c && decide d))) := by
  by_cases ha : a <;> by_cases hb : b <;> by_cases hc : c <;> by_cases hd : d <;> simp [ha, hb, hc, hd]
theorem rd_covers {ds : List D} {P : D → Prop} (h : sp_covers ds P) : d_covers (fin false P) (st 7 ds) := by
  obtain ⟨r, x, y, rfl, q⟩ := h
  have e : decide (r.has x y) = (decide (r.l ≤ x) && (decide (x < r.r) && (decide (r.t ≤ y) && decide (y < r.b)))) := and4
  rw [e] at q
  simp only [d_covers, dC, dV, dB, dO2, ob_some, dT, dAndT, dOrT, dNotT, dIf, dAndV, dOrV, dNotV, dChain, aNil, aCons, dTup, dLst, dCut, oNone, oSome, dRev, dNeg, dTru, dCa, dIs, dIsA, dCall, dCallK, sNil, sSeq, sNever, sBrk, sCont, sIf, sRet, sRetO, sRetE, sSet, sSetO, sDrop, sPar, sPar3, kn, enOf, owD, sAsg, gNm, gsNil, gsCons, gTp, sApp, sIns, sExt, sClr, sRev, sPut, sFrz, owAt, fin, st, iRng, iRngB, iSeq, lstD, tupD, sFor, dLc, dDc, wipeE, tYesD, dIndex, dSort, dDictZip, dMeth, dFld, dMk, List.map_cons, List.map_nil, List.length_cons, List.length_nil, List.replicate_succ, List.replicate_zero, List.cons_append, List.nil_append, List.append_nil, List.getElem?_cons_zero, List.getElem?_cons_succ, List.set_cons_zero, List.set_cons_succ, Option.bind_some, Option.map_some, Nat.reduceSub, Nat.reduceAdd, kwP, List.getD_cons_zero, List.getD_cons_succ, rectD, bLe_i, iLt_i]
  refine ⟨trivial, trivial, ?_⟩
  cases h1 : decide (r.l ≤ x) with
  | false => rw [h1, Bool.false_and] at q; exact q
  | true =>
    rw [h1, Bool.true_and] at q
    cases h2 : decide (x < r.r) with
    | false => rw [h2, Bool.false_and] at q; simpa using q
    | true =>
      rw [h2, Bool.true_and] at q
      simp only [if_true]
      cases h3 : decide (r.t ≤ y) with
      | false => rw [h3, Bool.false_and] at q; exact q
      | true => rw [h3, Bool.true_and] at q; exact q
def sp_is_name : DSp := fun ds P => ∃ z : Str, ds = [.str z] ∧ z.length ≤ 1000000 ∧ P (.bl (decide (NameOk z)))
def d_is_name : TDS := (sSeq (sIf (dOrT (dNotT (dT (dIs "str" (dV 0)))) (dNotT (dT (dChain bLe bLe (dC (.int 1)) (dCa lenD (aCons (dV 0) aNil)) (dC (.int 6)))))) (sRet (dC (.bl false))) sNil)
  (sRet (dCa allD (aCons (dLc (iSeq (dV 0)) (gNm 1) tYesD (dO2 (bIn false) (dV 1) (dC (.str "abcdefghijklmnopqrstuvwxyz"))) [1]) aNil))))
theorem rd_is_name {ds : List D} {P : D → Prop} (h : sp_is_name ds P) : d_is_name (fin false P) (st 2 ds) := by
  obtain ⟨z, rfl, hz, q⟩ := h
  have hs : z.length ≤ sizeLine := Nat.le_of_lt (szM hz)
  have e : decide (NameOk z) = (decide ((1 : Int) ≤ z.length) && (decide ((z.length : Int) ≤ 6) && z.cps.toList.all fun c => decide (Low c))) := by
    rw [Bool.eq_iff_iff, decide_eq_true_iff, Bool.and_eq_true, Bool.and_eq_true, decide_eq_true_iff, decide_eq_true_iff, List.all_eq_true]
    constructor
    · rintro ⟨g1, g2, g3⟩
      exact ⟨by omega, by omega, fun c hc => decide_eq_true (g3 c hc)⟩
    · rintro ⟨g1, g2, g3⟩
      exact ⟨by omega, by omega, fun c hc => of_decide_eq_true (g3 c hc)⟩
  rw [e] at q
  simp only [d_is_name, dC, dV, dB, dO2, ob_some, dT, dAndT, dOrT, dNotT, dIf, dAndV, dOrV, dNotV, dChain, aNil, aCons, dTup, dLst, dCut, oNone, oSome, dRev, dNeg, dTru, dCa, dIs, dIsA, dCall, dCallK, sNil, sSeq, sNever, sBrk, sCont, sIf, sRet, sRetO, sRetE, sSet, sSetO, sDrop, sPar, sPar3, kn, enOf, owD, sAsg, gNm, gsNil, gsCons, gTp, sApp, sIns, sExt, sClr, sRev, sPut, sFrz, owAt, fin, st, iRng, iRngB, iSeq, lstD, tupD, sFor, dLc, dDc, wipeE, tYesD, dIndex, dSort, dDictZip, dMeth, dFld, dMk, List.map_cons, List.map_nil, List.length_cons, List.length_nil, List.replicate_succ, List.replicate_zero, List.cons_append, List.nil_append, List.append_nil, List.getElem?_cons_zero, List.getElem?_cons_succ, List.set_cons_zero, List.set_cons_succ, Option.bind_some, Option.map_some, Nat.reduceSub, Nat.reduceAdd, kwP, List.getD_cons_zero, List.getD_cons_succ, is_ss, lenD, if_pos hs, bLe_i, Bool.not_true, Bool.false_eq_true, if_false]
  cases h1 : decide ((1 : Int) ≤ z.length) with
  | false => rw [h1, Bool.false_and] at q; simpa using q
  | true =>
    rw [h1, Bool.true_and] at q
    cases h2 : decide ((z.length : Int) ≤ 6) with
    | false => rw [h2, Bool.false_and] at q; simpa using q
    | true =>
      rw [h2, Bool.true_and] at q
      simp only [Bool.not_true, Bool.false_eq_true, if_false]
      refine .inr (.inr ?_)
      show dComp _ _ _ _ _ (z.cps.toList.map fun c => D.str ⟨#[c]⟩) []
      refine comp_map (fun c : Nat => D.str ⟨#[c]⟩) (fun c => D.bl (decide (Low c))) z.cps.toList [] (fun c hc Q Z hQ => ?_) (by rw [← str_len]; simp; omega) ?_
      · have e2 : bIn false (.str ⟨#[c]⟩) (.str "abcdefghijklmnopqrstuvwxyz") = some (.bl (decide (Low c))) := by
          show (none : Option D).or ((none : Option D).or ((some (D.bl (false ^^ decide (c ∈ abc.cps.toList)))).or _)) = _
          rw [Bool.false_xor, decide_eq_decide.mpr (abc_mem (c := c))]
          rfl
        simp only [dC, dV, dB, dO2, ob_some, dT, dAndT, dOrT, dNotT, dIf, dAndV, dOrV, dNotV, dChain, aNil, aCons, dTup, dLst, dCut, oNone, oSome, dRev, dNeg, dTru, dCa, dIs, dIsA, dCall, dCallK, sNil, sSeq, sNever, sBrk, sCont, sIf, sRet, sRetO, sRetE, sSet, sSetO, sDrop, sPar, sPar3, kn, enOf, owD, sAsg, gNm, gsNil, gsCons, gTp, sApp, sIns, sExt, sClr, sRev, sPut, sFrz, owAt, fin, st, iRng, iRngB, iSeq, lstD, tupD, sFor, dLc, dDc, wipeE, tYesD, dIndex, dSort, dDictZip, dMeth, dFld, dMk, List.map_cons, List.map_nil, List.length_cons, List.length_nil, List.replicate_succ, List.replicate_zero, List.cons_append, List.nil_append, List.append_nil, List.getElem?_cons_zero, List.getElem?_cons_succ, List.set_cons_zero, List.set_cons_succ, Option.bind_some, Option.map_some, Nat.reduceSub, Nat.reduceAdd, kwP, List.getD_cons_zero, List.getD_cons_succ, e2, if_true]
        exact hQ
      · rw [List.nil_append, allD_f]
        exact q
end DL
namespace DL
open PySem PySem.Spec PyProof.Rows L2 RK
def look (us : List Win) (z : Str) : Option R := (us.find? fun w => decide (w.1 = z)).map (·.2)
theorem val_win (us : List Win) (z : Str) : valD (us.map wk) (Sum.inr z : Key) = (look us z).map rectD := by
  unfold valD look
  induction us with
  | nil => rfl
  | cons u us ih =>
    rw [List.map_cons, List.find?_cons, List.find?_cons]
    have e : decide ((wk u).1 = (Sum.inr z : Key)) = decide (u.1 = z) := decide_eq_decide.mpr inr_inj
    rw [e]
    cases decide (u.1 = z) with
    | true => rfl
    | false => exact ih
theorem look_mem {us : List Win} (nd : (nms us).Nodup) {w : Win} (h : w ∈ us) : look us w.1 = some w.2 := by
  unfold look
  induction us with
  | nil => cases h
  | cons u us ih =>
    rw [List.find?_cons]
    have nd' := List.nodup_cons.mp nd
    rcases List.mem_cons.mp h with rfl | h
    · rw [decide_eq_true rfl]
      rfl
    · have : u.1 ≠ w.1 := fun e => nd'.1 (by show u.1 ∈ _; rw [e]; exact List.mem_map.mpr ⟨w, h, rfl⟩)
      rw [decide_eq_false this]
      exact ih nd'.2 h
theorem look_some {us : List Win} {z : Str} {r : R} (h : look us z = some r) : (z, r) ∈ us := by
  unfold look at h
  obtain ⟨w, h1, h2⟩ := Option.map_eq_some_iff.mp h
  have h3 : w.1 = z := of_decide_eq_true (List.find?_some (p := fun w : Win => decide (w.1 = z)) h1)
  have h4 := List.mem_of_find?_eq_some h1
  rw [← h3, ← h2]
  exact h4
theorem look_ex {us : List Win} (nd : (nms us).Nodup) {z : Str} (h : z ∈ nms us) : ∃ r, look us z = some r ∧ (z, r) ∈ us := by
  obtain ⟨w, hw, rfl⟩ := List.mem_map.mp h
  exact ⟨w.2, look_mem nd hw, hw⟩
theorem bIx_win {us : List Win} {z : Str} {r : R} (h : look us z = some r) : bIx (winD us) (.str z) = some (rectD r) := by
  show (none : Option D).or ((none : Option D).or ((some (valD (us.map wk) (Sum.inr z : Key))).bind fun r => r)) = _
  rw [val_win, h]
  rfl
theorem bIn_win {neg : Bool} (us : List Win) (z : Str) : bIn neg (.str z) (winD us) = some (.bl (neg ^^ (look us z).isSome)) := by
  show (none : Option D).or ((some (D.bl (neg ^^ (valD (us.map wk) (Sum.inr z : Key)).isSome))).or _) = _
  rw [val_win]
  cases look us z <;> rfl
theorem txtKeys_win (us : List Win) : txtKeys (us.map wk) = some (nms us) := by
  induction us with
  | nil => rfl
  | cons u us ih =>
    show (txtKeys (us.map wk)).map _ = _
    rw [ih]
    rfl
theorem any_str (zs : List Str) (n : Str) : ((zs.map D.str).any fun y => eqF y (.str n)) = decide (n ∈ zs) := by
  induction zs with
  | nil => rfl
  | cons z zs ih =>
    rw [List.map_cons, List.any_cons, ih]
    show ((z == n) || decide (n ∈ zs)) = _
    by_cases h : z = n
    · subst h
      simp
    · have : (z == n) = false := beq_eq_false_iff_ne.mpr h
      rw [this, Bool.false_or]
      exact decide_eq_decide.mpr ⟨fun h => List.mem_cons_of_mem _ h, fun h2 => (List.mem_cons.mp h2).elim (fun e => (h e.symm).elim) id⟩
theorem leaf_strs (zs : List Str) : (zs.map D.str).all D.leaf = true := by
  rw [List.all_eq_true]
  intro d hd
  obtain ⟨z, _, rfl⟩ := List.mem_map.mp hd
  rfl
def IsSeq (d : D) (zs : List Str) : Prop := d = .lst (zs.map D.str) ∨ d = .tup (zs.map D.str)
theorem bIn_strs {neg : Bool} {d : D} {zs : List Str} (h : IsSeq d zs) (n : Str) : bIn neg (.str n) d = some (.bl (neg ^^ decide (n ∈ zs))) := by
  rcases h with rfl | rfl
  · show ((if D.leaf (.str n) = true ∧ (zs.map D.str).all D.leaf = true then some (D.bl (neg ^^ (zs.map D.str).any fun y => eqF y (.str n))) else none)).or _ = _
    rw [if_pos ⟨rfl, leaf_strs zs⟩, any_str]
    rfl
  · show ((if D.leaf (.str n) = true ∧ (zs.map D.str).all D.leaf = true then some (D.bl (neg ^^ (zs.map D.str).any fun y => eqF y (.str n))) else none)).or _ = _
    rw [if_pos ⟨rfl, leaf_strs zs⟩, any_str]
    rfl
theorem len_strs {d : D} {zs : List Str} (h : IsSeq d zs) : lenD [d] = some (.int zs.length) := by
  rcases h with rfl | rfl
  · show some (D.int ((zs.map D.str).length : Int)) = _
    rw [List.length_map]
  · show some (D.int ((zs.map D.str).length : Int)) = _
    rw [List.length_map]
theorem seq_strs {d : D} {zs : List Str} (h : IsSeq d zs) {P : List D → Prop} (q : P (zs.map D.str)) : ob (lstD d) P ∨ ob (tupD d) P ∨ ob (sgnD d) P := by
  rcases h with rfl | rfl
  · exact .inl q
  · exact .inr (.inl q)
def sp_check_windows : DSp := fun ds P => ∃ ws, ds = [winD ws] ∧ WOk ws ∧ 1 ≤ ws.length ∧ ws.length ≤ 24 ∧ P .non
def d_check_windows : TDS := (sSeq (sIf (dNotT (dT (dChain bLe bLe (dC (.int 1)) (dCa lenD (aCons (dV 0) aNil)) (dC (.int 24))))) sNever sNil)
  (sSeq (sSet 1 (dSort (dV 0)))
  (sSeq (sFor (iSeq (dV 1)) (gNm 2) (sIf (dNotT (dT (dCall sp_is_name (aCons (dV 2) aNil)))) sNever sNil))
  (sFor (iSeq (dV 1)) (gNm 2) (sIf (dNotT (dT (dCall sp_is_rectangle (aCons (dO2 bIx (dV 0) (dV 2)) aNil)))) sNever sNil)))))
theorem sort_name {ws : List Win} {ys : List Str} (W : WOk ws) (h : SortS (nms ws) ys) : ∀ y ∈ ys, NameOk y ∧ ∃ r, look ws y = some r ∧ r.good := fun y hy => by
  obtain ⟨w, hw, rfl⟩ := List.mem_map.mp (h.1.mem_iff.mp hy)
  exact ⟨W.nm w hw, w.2, look_mem W.nd hw, W.gd w hw⟩
theorem rd_check_windows {ds : List D} {P : D → Prop} (h : sp_check_windows ds P) : d_check_windows (fin false P) (st 3 ds) := by
  obtain ⟨ws, rfl, W, l1, l2, q⟩ := h
  have e1 : decide ((1 : Int) ≤ (ws.map wk).length) = true := by rw [List.length_map]; exact decide_eq_true (by omega)
  have e2 : decide (((ws.map wk).length : Int) ≤ 24) = true := by rw [List.length_map]; exact decide_eq_true (by omega)
  simp only [d_check_windows, dC, dV, dB, dO2, ob_some, dT, dAndT, dOrT, dNotT, dIf, dAndV, dOrV, dNotV, dChain, aNil, aCons, dTup, dLst, dCut, oNone, oSome, dRev, dNeg, dTru, dCa, dIs, dIsA, dCall, dCallK, sNil, sSeq, sNever, sBrk, sCont, sIf, sRet, sRetO, sRetE, sSet, sSetO, sDrop, sPar, sPar3, kn, enOf, owD, sAsg, gNm, gsNil, gsCons, gTp, sApp, sIns, sExt, sClr, sRev, sPut, sFrz, owAt, fin, st, iRng, iRngB, iSeq, lstD, tupD, sFor, dLc, dDc, wipeE, tYesD, dIndex, dSort, dDictZip, dMeth, dFld, dMk, List.map_cons, List.map_nil, List.length_cons, List.length_nil, List.replicate_succ, List.replicate_zero, List.cons_append, List.nil_append, List.append_nil, List.getElem?_cons_zero, List.getElem?_cons_succ, List.set_cons_zero, List.set_cons_succ, Option.bind_some, Option.map_some, Nat.reduceSub, Nat.reduceAdd, kwP, List.getD_cons_zero, List.getD_cons_succ, winD, lenD, bLe_i, e1, e2, Bool.not_true, Bool.false_eq_true, if_false]
  refine ⟨_, txtKeys_win ws, by unfold nms; rw [List.length_map]; omega, fun ys hs => .inl ?_⟩
  have key := sort_name W hs
  refine loop_all D.str ys (fun _ env => ∃ e, env = [.fz (winD ws), .fz (.lst (ys.map D.str)), e]) ⟨.no, rfl⟩ (fun pre a post env e h k hk => ?_) (fun env h => ?_)
  · obtain ⟨e3, rfl⟩ := h
    have ha := key a (by rw [e]; simp)
    simp only [dC, dV, dB, dO2, ob_some, dT, dAndT, dOrT, dNotT, dIf, dAndV, dOrV, dNotV, dChain, aNil, aCons, dTup, dLst, dCut, oNone, oSome, dRev, dNeg, dTru, dCa, dIs, dIsA, dCall, dCallK, sNil, sSeq, sNever, sBrk, sCont, sIf, sRet, sRetO, sRetE, sSet, sSetO, sDrop, sPar, sPar3, kn, enOf, owD, sAsg, gNm, gsNil, gsCons, gTp, sApp, sIns, sExt, sClr, sRev, sPut, sFrz, owAt, fin, st, iRng, iRngB, iSeq, lstD, tupD, sFor, dLc, dDc, wipeE, tYesD, dIndex, dSort, dDictZip, dMeth, dFld, dMk, List.map_cons, List.map_nil, List.length_cons, List.length_nil, List.replicate_succ, List.replicate_zero, List.cons_append, List.nil_append, List.append_nil, List.getElem?_cons_zero, List.getElem?_cons_succ, List.set_cons_zero, List.set_cons_succ, Option.bind_some, Option.map_some, Nat.reduceSub, Nat.reduceAdd, kwP, List.getD_cons_zero, List.getD_cons_succ]
    refine ⟨a, rfl, by have := ha.1.2.1; omega, ?_⟩
    rw [decide_eq_true ha.1]
    simp only [Bool.not_true, Bool.false_eq_true, if_false]
    exact hk _ ⟨_, rfl⟩
  · obtain ⟨e3, rfl⟩ := h
    simp only [dC, dV, dB, dO2, ob_some, dT, dAndT, dOrT, dNotT, dIf, dAndV, dOrV, dNotV, dChain, aNil, aCons, dTup, dLst, dCut, oNone, oSome, dRev, dNeg, dTru, dCa, dIs, dIsA, dCall, dCallK, sNil, sSeq, sNever, sBrk, sCont, sIf, sRet, sRetO, sRetE, sSet, sSetO, sDrop, sPar, sPar3, kn, enOf, owD, sAsg, gNm, gsNil, gsCons, gTp, sApp, sIns, sExt, sClr, sRev, sPut, sFrz, owAt, fin, st, iRng, iRngB, iSeq, lstD, tupD, sFor, dLc, dDc, wipeE, tYesD, dIndex, dSort, dDictZip, dMeth, dFld, dMk, List.map_cons, List.map_nil, List.length_cons, List.length_nil, List.replicate_succ, List.replicate_zero, List.cons_append, List.nil_append, List.append_nil, List.getElem?_cons_zero, List.getElem?_cons_succ, List.set_cons_zero, List.set_cons_succ, Option.bind_some, Option.map_some, Nat.reduceSub, Nat.reduceAdd, kwP, List.getD_cons_zero, List.getD_cons_succ]
    refine .inl (loop_all D.str ys (fun _ env => ∃ e, env = [.fz (winD ws), .fz (.lst (ys.map D.str)), e]) ⟨_, rfl⟩ (fun pre a post env e h k hk => ?_) (fun env h => ?_))
    · obtain ⟨e4, rfl⟩ := h
      obtain ⟨_, r, hr, gr⟩ := key a (by rw [e]; simp)
      simp only [dC, dV, dB, dO2, ob_some, dT, dAndT, dOrT, dNotT, dIf, dAndV, dOrV, dNotV, dChain, aNil, aCons, dTup, dLst, dCut, oNone, oSome, dRev, dNeg, dTru, dCa, dIs, dIsA, dCall, dCallK, sNil, sSeq, sNever, sBrk, sCont, sIf, sRet, sRetO, sRetE, sSet, sSetO, sDrop, sPar, sPar3, kn, enOf, owD, sAsg, gNm, gsNil, gsCons, gTp, sApp, sIns, sExt, sClr, sRev, sPut, sFrz, owAt, fin, st, iRng, iRngB, iSeq, lstD, tupD, sFor, dLc, dDc, wipeE, tYesD, dIndex, dSort, dDictZip, dMeth, dFld, dMk, List.map_cons, List.map_nil, List.length_cons, List.length_nil, List.replicate_succ, List.replicate_zero, List.cons_append, List.nil_append, List.append_nil, List.getElem?_cons_zero, List.getElem?_cons_succ, List.set_cons_zero, List.set_cons_succ, Option.bind_some, Option.map_some, Nat.reduceSub, Nat.reduceAdd, kwP, List.getD_cons_zero, List.getD_cons_succ, bIx_win hr]
      refine ⟨r, rfl, ?_⟩
      rw [decide_eq_true gr]
      simp only [Bool.not_true, Bool.false_eq_true, if_false]
      exact hk _ ⟨_, rfl⟩
    · exact ⟨trivial, q⟩
def SortW (us : List Win) : Prop := (nms us).Pairwise leS
def sp_Desk___init : DSp := fun ds P => ∃ ws, ds = [winD ws] ∧ WOk ws ∧ 1 ≤ ws.length ∧ ws.length ≤ 24 ∧ ∀ us, us.Perm ws → SortW us → P (winD us)
def deskD (C : Addr) (us : List Win) : D := .obj C [("windows", winD us)]
theorem lookW (us : List Win) : ([(("windows" : Str), winD us)] : List (Str × D)).lookup ("windows" : Str) = some (winD us) := by
  simp [List.lookup]
def sp_Desk_names (C : Addr) : DSp := fun ds P => ∃ us, ds = [deskD C us] ∧ P (.lst ((nms us).map D.str))
def d_Desk_names (C_Desk : Addr) : TDS := (sRet (dCa listD (aCons (dFld C_Desk "windows" (dV 0)) aNil)))
theorem rd_Desk_names {C : Addr} {ds : List D} {P : D → Prop} (h : sp_Desk_names C ds P) : d_Desk_names C (fin true P) (st 1 ds) := by
  obtain ⟨us, rfl, q⟩ := h
  have e : listD [winD us] = some (.lst ((nms us).map D.str)) := by
    show some (D.lst ((us.map wk).map fun kd => keyV kd.1)) = _
    rw [List.map_map]
    unfold nms
    rw [List.map_map]
    rfl
  simp only [d_Desk_names, dC, dV, dB, dO2, ob_some, dT, dAndT, dOrT, dNotT, dIf, dAndV, dOrV, dNotV, dChain, aNil, aCons, dTup, dLst, dCut, oNone, oSome, dRev, dNeg, dTru, dCa, dIs, dIsA, dCall, dCallK, sNil, sSeq, sNever, sBrk, sCont, sIf, sRet, sRetO, sRetE, sSet, sSetO, sDrop, sPar, sPar3, kn, enOf, owD, sAsg, gNm, gsNil, gsCons, gTp, sApp, sIns, sExt, sClr, sRev, sPut, sFrz, owAt, fin, st, iRng, iRngB, iSeq, lstD, tupD, sFor, dLc, dDc, wipeE, tYesD, dIndex, dSort, dDictZip, dMeth, dFld, dMk, List.map_cons, List.map_nil, List.length_cons, List.length_nil, List.replicate_succ, List.replicate_zero, List.cons_append, List.nil_append, List.append_nil, List.getElem?_cons_zero, List.getElem?_cons_succ, List.set_cons_zero, List.set_cons_succ, Option.bind_some, Option.map_some, Nat.reduceSub, Nat.reduceAdd, kwP, List.getD_cons_zero, List.getD_cons_succ, deskD, lookW, e]
  exact ⟨trivial, q⟩
def sp_Desk_rectangle (C : Addr) : DSp := fun ds P => ∃ us z r, ds = [deskD C us, .str z] ∧ look us z = some r ∧ P (rectD r)
def d_Desk_rectangle (C_Desk : Addr) : TDS := (sSeq (sIf (dT (dO2 (bIn true) (dV 1) (dFld C_Desk "windows" (dV 0)))) sNever sNil)
  (sRet (dO2 bIx (dFld C_Desk "windows" (dV 0)) (dV 1))))
theorem rd_Desk_rectangle {C : Addr} {ds : List D} {P : D → Prop} (h : sp_Desk_rectangle C ds P) : d_Desk_rectangle C (fin false P) (st 2 ds) := by
  obtain ⟨us, z, r, rfl, hr, q⟩ := h
  simp only [d_Desk_rectangle, dC, dV, dB, dO2, ob_some, dT, dAndT, dOrT, dNotT, dIf, dAndV, dOrV, dNotV, dChain, aNil, aCons, dTup, dLst, dCut, oNone, oSome, dRev, dNeg, dTru, dCa, dIs, dIsA, dCall, dCallK, sNil, sSeq, sNever, sBrk, sCont, sIf, sRet, sRetO, sRetE, sSet, sSetO, sDrop, sPar, sPar3, kn, enOf, owD, sAsg, gNm, gsNil, gsCons, gTp, sApp, sIns, sExt, sClr, sRev, sPut, sFrz, owAt, fin, st, iRng, iRngB, iSeq, lstD, tupD, sFor, dLc, dDc, wipeE, tYesD, dIndex, dSort, dDictZip, dMeth, dFld, dMk, List.map_cons, List.map_nil, List.length_cons, List.length_nil, List.replicate_succ, List.replicate_zero, List.cons_append, List.nil_append, List.append_nil, List.getElem?_cons_zero, List.getElem?_cons_succ, List.set_cons_zero, List.set_cons_succ, Option.bind_some, Option.map_some, Nat.reduceSub, Nat.reduceAdd, kwP, List.getD_cons_zero, List.getD_cons_succ, deskD, lookW, bIn_win, hr, bIx_win hr, Option.isSome_some, Bool.xor_true, Bool.not_true, Bool.false_eq_true, if_false]
  exact ⟨trivial, trivial, q⟩
def isOrd (us : List Win) (zs : List Str) : Bool := decide ((zs.length : Int) = us.length) && (nms us).all fun n => decide (n ∈ zs)
def sp_is_order (C : Addr) : DSp := fun ds P => ∃ us d zs, ds = [deskD C us, d] ∧ IsSeq d zs ∧ us.length ≤ 24 ∧ P (.bl (isOrd us zs))
theorem no_m {m : Str} (h : (m == ("windows" : Str)) = false) (us : List Win) : ([(("windows" : Str), winD us)] : List (Str × D)).lookup m = none := by
  simp [List.lookup, h]
def d_is_order (C_Desk : Addr) : TDS := (sSeq (sSet 2 (dMeth C_Desk "names" (sp_Desk_names C_Desk) (dV 0) aNil))
  (sRet (dAndV (dO2 (bEqN false) (dCa lenD (aCons (dV 1) aNil)) (dCa lenD (aCons (dV 2) aNil))) (dCa allD (aCons (dLc (iSeq (dV 2)) (gNm 3) tYesD (dO2 (bIn false) (dV 3) (dV 1)) [3]) aNil)))))
theorem rd_is_order {C : Addr} {ds : List D} {P : D → Prop} (h : sp_is_order C ds P) : d_is_order C (fin false P) (st 4 ds) := by
  obtain ⟨us, d, zs, rfl, hd, hl, q⟩ := h
  have hn : (("names" : Str) == ("windows" : Str)) = false := by decide +kernel
  simp only [d_is_order, dC, dV, dB, dO2, ob_some, dT, dAndT, dOrT, dNotT, dIf, dAndV, dOrV, dNotV, dChain, aNil, aCons, dTup, dLst, dCut, oNone, oSome, dRev, dNeg, dTru, dCa, dIs, dIsA, dCall, dCallK, sNil, sSeq, sNever, sBrk, sCont, sIf, sRet, sRetO, sRetE, sSet, sSetO, sDrop, sPar, sPar3, kn, enOf, owD, sAsg, gNm, gsNil, gsCons, gTp, sApp, sIns, sExt, sClr, sRev, sPut, sFrz, owAt, fin, st, iRng, iRngB, iSeq, lstD, tupD, sFor, dLc, dDc, wipeE, tYesD, dIndex, dSort, dDictZip, dMeth, dFld, dMk, List.map_cons, List.map_nil, List.length_cons, List.length_nil, List.replicate_succ, List.replicate_zero, List.cons_append, List.nil_append, List.append_nil, List.getElem?_cons_zero, List.getElem?_cons_succ, List.set_cons_zero, List.set_cons_succ, Option.bind_some, Option.map_some, Nat.reduceSub, Nat.reduceAdd, kwP, List.getD_cons_zero, List.getD_cons_succ, deskD, no_m hn]
  refine ⟨trivial, trivial, us, rfl, ?_⟩
  have e1 := len_strs hd
  have e2 : lenD [.lst ((nms us).map D.str)] = some (.int us.length) := by rw [len_strs (.inl rfl)]; unfold nms; rw [List.length_map]
  simp only [dC, dV, dB, dO2, ob_some, dT, dAndT, dOrT, dNotT, dIf, dAndV, dOrV, dNotV, dChain, aNil, aCons, dTup, dLst, dCut, oNone, oSome, dRev, dNeg, dTru, dCa, dIs, dIsA, dCall, dCallK, sNil, sSeq, sNever, sBrk, sCont, sIf, sRet, sRetO, sRetE, sSet, sSetO, sDrop, sPar, sPar3, kn, enOf, owD, sAsg, gNm, gsNil, gsCons, gTp, sApp, sIns, sExt, sClr, sRev, sPut, sFrz, owAt, fin, st, iRng, iRngB, iSeq, lstD, tupD, sFor, dLc, dDc, wipeE, tYesD, dIndex, dSort, dDictZip, dMeth, dFld, dMk, List.map_cons, List.map_nil, List.length_cons, List.length_nil, List.replicate_succ, List.replicate_zero, List.cons_append, List.nil_append, List.append_nil, List.getElem?_cons_zero, List.getElem?_cons_succ, List.set_cons_zero, List.set_cons_succ, Option.bind_some, Option.map_some, Nat.reduceSub, Nat.reduceAdd, kwP, List.getD_cons_zero, List.getD_cons_succ, e1, e2, bEq_i]
  refine ite2 (fun h => .inl ?_) (fun h => ?_)
  · refine comp_map D.str (fun n => D.bl (decide (n ∈ zs))) (nms us) [] (fun n hn Q Z hQ => ?_) (by unfold nms; simp; omega) ?_
    · simp only [dC, dV, dB, dO2, ob_some, dT, dAndT, dOrT, dNotT, dIf, dAndV, dOrV, dNotV, dChain, aNil, aCons, dTup, dLst, dCut, oNone, oSome, dRev, dNeg, dTru, dCa, dIs, dIsA, dCall, dCallK, sNil, sSeq, sNever, sBrk, sCont, sIf, sRet, sRetO, sRetE, sSet, sSetO, sDrop, sPar, sPar3, kn, enOf, owD, sAsg, gNm, gsNil, gsCons, gTp, sApp, sIns, sExt, sClr, sRev, sPut, sFrz, owAt, fin, st, iRng, iRngB, iSeq, lstD, tupD, sFor, dLc, dDc, wipeE, tYesD, dIndex, dSort, dDictZip, dMeth, dFld, dMk, List.map_cons, List.map_nil, List.length_cons, List.length_nil, List.replicate_succ, List.replicate_zero, List.cons_append, List.nil_append, List.append_nil, List.getElem?_cons_zero, List.getElem?_cons_succ, List.set_cons_zero, List.set_cons_succ, Option.bind_some, Option.map_some, Nat.reduceSub, Nat.reduceAdd, kwP, List.getD_cons_zero, List.getD_cons_succ, bIn_strs hd, Bool.false_xor, if_true]
      exact hQ
    · rw [List.nil_append, allD_f]
      unfold isOrd at q
      rw [h, Bool.true_and] at q
      exact q
  · unfold isOrd at q
    rw [Bool.eq_false_iff.mpr h, Bool.false_and] at q
    exact q
theorem ord_of {us : List Win} {zs : List Str} (h : zs.Perm (nms us)) : isOrd us zs = true := by
  unfold isOrd
  rw [Bool.and_eq_true]
  refine ⟨decide_eq_true (by have := h.length_eq; unfold nms at this; rw [List.length_map] at this; omega), List.all_eq_true.mpr fun n hn => decide_eq_true (h.mem_iff.mpr hn)⟩
def sp_check_order (C : Addr) : DSp := fun ds P => ∃ us d zs, ds = [deskD C us, d] ∧ IsSeq d zs ∧ us.length ≤ 24 ∧ isOrd us zs = true ∧ P .non
def d_check_order (C_Desk : Addr) : TDS := (sIf (dNotT (dT (dCall (sp_is_order C_Desk) (aCons (dV 0) (aCons (dV 1) aNil))))) sNever sNil)
theorem rd_check_order {C : Addr} {ds : List D} {P : D → Prop} (h : sp_check_order C ds P) : d_check_order C (fin false P) (st 2 ds) := by
  obtain ⟨us, d, zs, rfl, hd, hl, ho, q⟩ := h
  simp only [d_check_order, dC, dV, dB, dO2, ob_some, dT, dAndT, dOrT, dNotT, dIf, dAndV, dOrV, dNotV, dChain, aNil, aCons, dTup, dLst, dCut, oNone, oSome, dRev, dNeg, dTru, dCa, dIs, dIsA, dCall, dCallK, sNil, sSeq, sNever, sBrk, sCont, sIf, sRet, sRetO, sRetE, sSet, sSetO, sDrop, sPar, sPar3, kn, enOf, owD, sAsg, gNm, gsNil, gsCons, gTp, sApp, sIns, sExt, sClr, sRev, sPut, sFrz, owAt, fin, st, iRng, iRngB, iSeq, lstD, tupD, sFor, dLc, dDc, wipeE, tYesD, dIndex, dSort, dDictZip, dMeth, dFld, dMk, List.map_cons, List.map_nil, List.length_cons, List.length_nil, List.replicate_succ, List.replicate_zero, List.cons_append, List.nil_append, List.append_nil, List.getElem?_cons_zero, List.getElem?_cons_succ, List.set_cons_zero, List.set_cons_succ, Option.bind_some, Option.map_some, Nat.reduceSub, Nat.reduceAdd, kwP, List.getD_cons_zero, List.getD_cons_succ]
  refine ⟨us, d, zs, rfl, hd, hl, ?_⟩
  rw [ho]
  simp only [Bool.not_true, Bool.false_eq_true, if_false]
  exact ⟨trivial, q⟩
def cov (us : List Win) (x y : Int) (z : Str) : Bool := match look us z with | some r => decide (r.has x y) | none => false
def topD (zs : List Str) : D := match zs.getLast? with | some z => .str z | none => .non
def sp_covering (C : Addr) : DSp := fun ds P => ∃ us d zs x y, ds = [deskD C us, d, .int x, .int y] ∧ IsSeq d zs ∧ zs.length ≤ 1000 ∧ (nms us).Nodup ∧ (∀ z ∈ zs, z ∈ nms us) ∧ P (.lst ((zs.filter (cov us x y)).map D.str))
def d_covering (C_Desk : Addr) : TDS := (sRet (dLc (iSeq (dV 1)) (gNm 4) (dT (dCall sp_covers (aCons (dMeth C_Desk "rectangle" (sp_Desk_rectangle C_Desk) (dV 0) (aCons (dV 4) aNil)) (aCons (dV 2) (aCons (dV 3) aNil))))) (dV 4) [4]))
theorem rd_covering {C : Addr} {ds : List D} {P : D → Prop} (h : sp_covering C ds P) : d_covering C (fin true P) (st 5 ds) := by
  obtain ⟨us, d, zs, x, y, rfl, hd, hl, nd, hz, q⟩ := h
  simp only [d_covering, dC, dV, dB, dO2, ob_some, dT, dAndT, dOrT, dNotT, dIf, dAndV, dOrV, dNotV, dChain, aNil, aCons, dTup, dLst, dCut, oNone, oSome, dRev, dNeg, dTru, dCa, dIs, dIsA, dCall, dCallK, sNil, sSeq, sNever, sBrk, sCont, sIf, sRet, sRetO, sRetE, sSet, sSetO, sDrop, sPar, sPar3, kn, enOf, owD, sAsg, gNm, gsNil, gsCons, gTp, sApp, sIns, sExt, sClr, sRev, sPut, sFrz, owAt, fin, st, iRng, iRngB, iSeq, lstD, tupD, sFor, dLc, dDc, wipeE, tYesD, dIndex, dSort, dDictZip, dMeth, dFld, dMk, List.map_cons, List.map_nil, List.length_cons, List.length_nil, List.replicate_succ, List.replicate_zero, List.cons_append, List.nil_append, List.append_nil, List.getElem?_cons_zero, List.getElem?_cons_succ, List.set_cons_zero, List.set_cons_succ, Option.bind_some, Option.map_some, Nat.reduceSub, Nat.reduceAdd, kwP, List.getD_cons_zero, List.getD_cons_succ]
  refine seq_strs hd ?_
  refine comp_filter D.str D.str (cov us x y) zs [] (fun z hz' Q Z h1 h2 => ?_) (by simp; omega) (by rw [List.nil_append]; exact q)
  have hn : (("rectangle" : Str) == ("windows" : Str)) = false := by decide +kernel
  obtain ⟨r, hr, _⟩ := look_ex nd (hz z hz')
  simp only [dC, dV, dB, dO2, ob_some, dT, dAndT, dOrT, dNotT, dIf, dAndV, dOrV, dNotV, dChain, aNil, aCons, dTup, dLst, dCut, oNone, oSome, dRev, dNeg, dTru, dCa, dIs, dIsA, dCall, dCallK, sNil, sSeq, sNever, sBrk, sCont, sIf, sRet, sRetO, sRetE, sSet, sSetO, sDrop, sPar, sPar3, kn, enOf, owD, sAsg, gNm, gsNil, gsCons, gTp, sApp, sIns, sExt, sClr, sRev, sPut, sFrz, owAt, fin, st, iRng, iRngB, iSeq, lstD, tupD, sFor, dLc, dDc, wipeE, tYesD, dIndex, dSort, dDictZip, dMeth, dFld, dMk, List.map_cons, List.map_nil, List.length_cons, List.length_nil, List.replicate_succ, List.replicate_zero, List.cons_append, List.nil_append, List.append_nil, List.getElem?_cons_zero, List.getElem?_cons_succ, List.set_cons_zero, List.set_cons_succ, Option.bind_some, Option.map_some, Nat.reduceSub, Nat.reduceAdd, kwP, List.getD_cons_zero, List.getD_cons_succ, deskD, no_m hn]
  refine ⟨trivial, trivial, us, z, r, rfl, hr, r, x, y, rfl, ?_⟩
  have e : cov us x y z = decide (r.has x y) := by
    unfold cov
    rw [hr]
  rw [e] at h1 h2
  cases hc : decide (r.has x y) with
  | true => exact h1 hc
  | false => exact h2 hc
theorem last_ix {zs : List Str} (h : zs ≠ []) : bIx (.lst (zs.map D.str)) (.int (-1)) = some (topD zs) := by
  obtain ⟨l, z, rfl⟩ : ∃ l z, zs = l ++ [z] := by
    rcases List.eq_nil_or_concat zs with h' | ⟨l, z, h'⟩
    · exact (h h').elim
    · exact ⟨l, z, by simpa using h'⟩
  show (atI ((l ++ [z]).map D.str) (-1)).or _ = _
  rw [List.map_append, List.map_cons, List.map_nil, atI_last]
  unfold topD
  rw [List.getLast?_append]
  rfl
def sp_top_window (C : Addr) : DSp := fun ds P => ∃ us d zs x y, ds = [deskD C us, d, .int x, .int y] ∧ IsSeq d zs ∧ zs.length ≤ 1000 ∧ (nms us).Nodup ∧ (∀ z ∈ zs, z ∈ nms us) ∧ P (topD (zs.filter (cov us x y)))
def d_top_window (C_Desk : Addr) : TDS := (sSeq (sSet 4 (dCall (sp_covering C_Desk) (aCons (dV 0) (aCons (dV 1) (aCons (dV 2) (aCons (dV 3) aNil))))))
  (sRet (dIf (dTru (dV 4)) (dO2 bIx (dV 4) (dNeg (dC (.int 1)))) (dC .non))))
theorem rd_top_window {C : Addr} {ds : List D} {P : D → Prop} (h : sp_top_window C ds P) : d_top_window C (fin false P) (st 5 ds) := by
  obtain ⟨us, d, zs, x, y, rfl, hd, hl, nd, hz, q⟩ := h
  simp only [d_top_window, dC, dV, dB, dO2, ob_some, dT, dAndT, dOrT, dNotT, dIf, dAndV, dOrV, dNotV, dChain, aNil, aCons, dTup, dLst, dCut, oNone, oSome, dRev, dNeg, dTru, dCa, dIs, dIsA, dCall, dCallK, sNil, sSeq, sNever, sBrk, sCont, sIf, sRet, sRetO, sRetE, sSet, sSetO, sDrop, sPar, sPar3, kn, enOf, owD, sAsg, gNm, gsNil, gsCons, gTp, sApp, sIns, sExt, sClr, sRev, sPut, sFrz, owAt, fin, st, iRng, iRngB, iSeq, lstD, tupD, sFor, dLc, dDc, wipeE, tYesD, dIndex, dSort, dDictZip, dMeth, dFld, dMk, List.map_cons, List.map_nil, List.length_cons, List.length_nil, List.replicate_succ, List.replicate_zero, List.cons_append, List.nil_append, List.append_nil, List.getElem?_cons_zero, List.getElem?_cons_succ, List.set_cons_zero, List.set_cons_succ, Option.bind_some, Option.map_some, Nat.reduceSub, Nat.reduceAdd, kwP, List.getD_cons_zero, List.getD_cons_succ]
  refine ⟨us, d, zs, x, y, rfl, hd, hl, nd, hz, ?_⟩
  generalize zs.filter (cov us x y) = ts at q
  simp only [truD, ob_some]
  cases ts with
  | nil => exact q
  | cons t ts =>
    show ob (bIx (.lst ((t :: ts).map D.str)) (.int (-1))) P
    rw [last_ix (by simp)]
    exact q
def sp_seen (C : Addr) : DSp := fun ds P => ∃ us d zs x y, ds = [deskD C us, d, .int x, .int y] ∧ IsSeq d zs ∧ us.length ≤ 24 ∧ (nms us).Nodup ∧ zs.Perm (nms us) ∧ P (topD (zs.filter (cov us x y)))
def d_seen (C_Desk : Addr) : TDS := (sSeq (sDrop (dCall (sp_check_order C_Desk) (aCons (dV 0) (aCons (dV 1) aNil))))
  (sRet (dCall (sp_top_window C_Desk) (aCons (dV 0) (aCons (dV 1) (aCons (dV 2) (aCons (dV 3) aNil)))))))
theorem rd_seen {C : Addr} {ds : List D} {P : D → Prop} (h : sp_seen C ds P) : d_seen C (fin false P) (st 4 ds) := by
  obtain ⟨us, d, zs, x, y, rfl, hd, hl, nd, hp, q⟩ := h
  have hlen : zs.length ≤ 1000 := by have := hp.length_eq; unfold nms at this; rw [List.length_map] at this; omega
  simp only [d_seen, dC, dV, dB, dO2, ob_some, dT, dAndT, dOrT, dNotT, dIf, dAndV, dOrV, dNotV, dChain, aNil, aCons, dTup, dLst, dCut, oNone, oSome, dRev, dNeg, dTru, dCa, dIs, dIsA, dCall, dCallK, sNil, sSeq, sNever, sBrk, sCont, sIf, sRet, sRetO, sRetE, sSet, sSetO, sDrop, sPar, sPar3, kn, enOf, owD, sAsg, gNm, gsNil, gsCons, gTp, sApp, sIns, sExt, sClr, sRev, sPut, sFrz, owAt, fin, st, iRng, iRngB, iSeq, lstD, tupD, sFor, dLc, dDc, wipeE, tYesD, dIndex, dSort, dDictZip, dMeth, dFld, dMk, List.map_cons, List.map_nil, List.length_cons, List.length_nil, List.replicate_succ, List.replicate_zero, List.cons_append, List.nil_append, List.append_nil, List.getElem?_cons_zero, List.getElem?_cons_succ, List.set_cons_zero, List.set_cons_succ, Option.bind_some, Option.map_some, Nat.reduceSub, Nat.reduceAdd, kwP, List.getD_cons_zero, List.getD_cons_succ]
  exact ⟨us, d, zs, rfl, hd, hl, ord_of hp, us, d, zs, x, y, rfl, hd, hlen, nd, fun z hz => hp.mem_iff.mp hz, q⟩
def sp_spot : DSp := fun ds P => ∃ ws, ds = [.bag, winD ws] ∧ WOk ws ∧ WSm ws ∧ 1 ≤ ws.length ∧ ws.length ≤ 24 ∧ ∀ x y : Int, P (.tup [.int x, .int y])
def d_spot : TDS := (sSeq (sIf (dT (dO2 (bEqN false) (dCall sp_pull (aCons (dV 0) (aCons (dC (.int 4)) aNil))) (dC (.int 0)))) (sRet (dTup (aCons (dO2 bSub (dCall sp_pull (aCons (dV 0) (aCons (dC (.int 15)) aNil))) (dC (.int 6))) (aCons (dO2 bSub (dCall sp_pull (aCons (dV 0) (aCons (dC (.int 15)) aNil))) (dC (.int 6))) aNil)))) sNil)
  (sSeq (sAsg (dO2 bIx (dV 1) (dCall sp_of (aCons (dV 0) (aCons (dSort (dV 1)) aNil)))) (gTp 4 (gsCons (gNm 2) (gsCons (gNm 3) (gsCons (gNm 4) (gsCons (gNm 5) gsNil))))))
  (sSeq (sSet 6 (dCall sp_of (aCons (dV 0) (aCons (dLst (aCons (dV 2) (aCons (dO2 bSub (dV 4) (dC (.int 1))) (aCons (dV 4) (aCons (dO2 bAdd (dV 2) (dCall sp_pull (aCons (dV 0) (aCons (dO2 bSub (dV 4) (dV 2)) aNil)))) aNil))))) aNil))))
  (sRet (dTup (aCons (dV 6) (aCons (dCall sp_of (aCons (dV 0) (aCons (dLst (aCons (dV 3) (aCons (dO2 bSub (dV 5) (dC (.int 1))) (aCons (dO2 bAdd (dV 3) (dCall sp_pull (aCons (dV 0) (aCons (dO2 bSub (dV 5) (dV 3)) aNil)))) aNil)))) aNil))) aNil)))))))
theorem rd_spot {ds : List D} {P : D → Prop} (h : sp_spot ds P) : d_spot (fin true P) (st 7 ds) := by
  obtain ⟨ws, rfl, W, S, l1, l2, q⟩ := h
  simp only [d_spot, dC, dV, dB, dO2, ob_some, dT, dAndT, dOrT, dNotT, dIf, dAndV, dOrV, dNotV, dChain, aNil, aCons, dTup, dLst, dCut, oNone, oSome, dRev, dNeg, dTru, dCa, dIs, dIsA, dCall, dCallK, sNil, sSeq, sNever, sBrk, sCont, sIf, sRet, sRetO, sRetE, sSet, sSetO, sDrop, sPar, sPar3, kn, enOf, owD, sAsg, gNm, gsNil, gsCons, gTp, sApp, sIns, sExt, sClr, sRev, sPut, sFrz, owAt, fin, st, iRng, iRngB, iSeq, lstD, tupD, sFor, dLc, dDc, wipeE, tYesD, dIndex, dSort, dDictZip, dMeth, dFld, dMk, List.map_cons, List.map_nil, List.length_cons, List.length_nil, List.replicate_succ, List.replicate_zero, List.cons_append, List.nil_append, List.append_nil, List.getElem?_cons_zero, List.getElem?_cons_succ, List.set_cons_zero, List.set_cons_succ, Option.bind_some, Option.map_some, Nat.reduceSub, Nat.reduceAdd, kwP, List.getD_cons_zero, List.getD_cons_succ, bEq_i, bSub, iI0, winD]
  refine ⟨_, rfl, by decide, by decide, fun r _ _ => ite2 (fun _ => ?_) (fun _ => ?_)⟩
  · exact ⟨_, rfl, by decide, by decide, fun a _ _ => ⟨_, rfl, by decide, by decide, fun b _ _ => ⟨by decide, q _ _⟩⟩⟩
  · refine ⟨_, txtKeys_win ws, by unfold nms; rw [List.length_map]; omega, fun ys hs => .inl ⟨_, .inl rfl, ?_, ?_, fun d hd => ?_⟩⟩
    · rw [List.length_map, hs.1.length_eq]
      unfold nms
      rw [List.length_map]
      exact l1
    · rw [List.length_map, hs.1.length_eq]
      unfold nms
      rw [List.length_map]
      omega
    · obtain ⟨z, hz, rfl⟩ := List.mem_map.mp hd
      obtain ⟨_, p, hp, g⟩ := sort_name W hs z hz
      have hg := g
      have hs2 : p.r - p.l ≤ 400000000 ∧ p.b - p.t ≤ 400000000 := (S _ (look_some hp)).2
      unfold R.good at hg
      have ex : bIx (.dic (ws.map wk)) (.str z) = some (rectD p) := bIx_win hp
      simp only [dC, dV, dB, dO2, ob_some, dT, dAndT, dOrT, dNotT, dIf, dAndV, dOrV, dNotV, dChain, aNil, aCons, dTup, dLst, dCut, oNone, oSome, dRev, dNeg, dTru, dCa, dIs, dIsA, dCall, dCallK, sNil, sSeq, sNever, sBrk, sCont, sIf, sRet, sRetO, sRetE, sSet, sSetO, sDrop, sPar, sPar3, kn, enOf, owD, sAsg, gNm, gsNil, gsCons, gTp, sApp, sIns, sExt, sClr, sRev, sPut, sFrz, owAt, fin, st, iRng, iRngB, iSeq, lstD, tupD, sFor, dLc, dDc, wipeE, tYesD, dIndex, dSort, dDictZip, dMeth, dFld, dMk, List.map_cons, List.map_nil, List.length_cons, List.length_nil, List.replicate_succ, List.replicate_zero, List.cons_append, List.nil_append, List.append_nil, List.getElem?_cons_zero, List.getElem?_cons_succ, List.set_cons_zero, List.set_cons_succ, Option.bind_some, Option.map_some, Nat.reduceSub, Nat.reduceAdd, kwP, List.getD_cons_zero, List.getD_cons_succ, ex, rectD, bAdd_i, iI0]
      refine ⟨trivial, trivial, _, rfl, by omega, by omega, fun a _ _ => ⟨by decide, .inl ⟨_, .inl rfl, by simp, by simp, fun d1 hd1 => ?_⟩⟩⟩
      obtain ⟨x, rfl⟩ : ∃ x, d1 = .int x := by
        simp only [List.mem_cons, List.not_mem_nil, or_false] at hd1
        rcases hd1 with rfl | rfl | rfl | rfl <;> exact ⟨_, rfl⟩
      refine ⟨_, rfl, by omega, by omega, fun b _ _ => ⟨by decide, .inl ⟨_, .inl rfl, by simp, by simp, fun d2 hd2 => ?_⟩⟩⟩
      obtain ⟨y, rfl⟩ : ∃ y, d2 = .int y := by
        simp only [List.mem_cons, List.not_mem_nil, or_false] at hd2
        rcases hd2 with rfl | rfl | rfl <;> exact ⟨_, rfl⟩
      exact ⟨by decide, q x y⟩
end DL
namespace DL
open PySem PySem.Spec PyProof.Rows L2 RK
theorem ln_of {ds : List D} {P : D → Prop} (h : sp_of ds P) : ds.length = 2 := by
  rcases h with ⟨xs, h | h, _⟩ | ⟨z, h, _⟩ <;> (subst h; rfl)
theorem ln_mixed {ds : List D} {P : D → Prop} (h : sp_mixed ds P) : ds.length = 2 := by
  rcases h with ⟨xs, h | h, _⟩ <;> (subst h; rfl)
theorem ln_rectangle {ds : List D} {P : D → Prop} (h : sp_rectangle ds P) : ds.length = 2 := by obtain ⟨_, rfl, _⟩ := h; rfl
theorem ln_names {ds : List D} {P : D → Prop} (h : sp_names ds P) : ds.length = 2 := by obtain ⟨_, rfl, _⟩ := h; rfl
theorem ln_windows {ds : List D} {P : D → Prop} (h : sp_windows ds P) : ds.length = 3 := by obtain ⟨_, _, rfl, _⟩ := h; rfl
theorem ln_has_four_numbers {ds : List D} {P : D → Prop} (h : sp_has_four_numbers ds P) : ds.length = 1 := by obtain ⟨_, rfl, _⟩ := h; rfl
theorem ln_is_rectangle {ds : List D} {P : D → Prop} (h : sp_is_rectangle ds P) : ds.length = 1 := by obtain ⟨_, rfl, _⟩ := h; rfl
theorem ln_covers {ds : List D} {P : D → Prop} (h : sp_covers ds P) : ds.length = 3 := by obtain ⟨_, _, _, rfl, _⟩ := h; rfl
theorem ln_is_name {ds : List D} {P : D → Prop} (h : sp_is_name ds P) : ds.length = 1 := by obtain ⟨_, rfl, _⟩ := h; rfl
theorem ln_check_windows {ds : List D} {P : D → Prop} (h : sp_check_windows ds P) : ds.length = 1 := by obtain ⟨_, rfl, _⟩ := h; rfl
theorem ln_Desk_names {C : Addr} {ds : List D} {P : D → Prop} (h : sp_Desk_names C ds P) : ds.length = 1 := by obtain ⟨_, rfl, _⟩ := h; rfl
theorem ln_Desk_rectangle {C : Addr} {ds : List D} {P : D → Prop} (h : sp_Desk_rectangle C ds P) : ds.length = 2 := by obtain ⟨_, _, _, rfl, _⟩ := h; rfl
theorem ln_is_order {C : Addr} {ds : List D} {P : D → Prop} (h : sp_is_order C ds P) : ds.length = 2 := by obtain ⟨_, _, _, rfl, _⟩ := h; rfl
theorem ln_check_order {C : Addr} {ds : List D} {P : D → Prop} (h : sp_check_order C ds P) : ds.length = 2 := by obtain ⟨_, _, _, rfl, _⟩ := h; rfl
theorem ln_covering {C : Addr} {ds : List D} {P : D → Prop} (h : sp_covering C ds P) : ds.length = 4 := by obtain ⟨_, _, _, _, _, rfl, _⟩ := h; rfl
theorem ln_top_window {C : Addr} {ds : List D} {P : D → Prop} (h : sp_top_window C ds P) : ds.length = 4 := by obtain ⟨_, _, _, _, _, rfl, _⟩ := h; rfl
theorem ln_seen {C : Addr} {ds : List D} {P : D → Prop} (h : sp_seen C ds P) : ds.length = 4 := by obtain ⟨_, _, _, _, _, rfl, _⟩ := h; rfl
theorem ln_spot {ds : List D} {P : D → Prop} (h : sp_spot ds P) : ds.length = 2 := by obtain ⟨_, rfl, _⟩ := h; rfl
def e1_init : TDE := (dCall sp_check_windows (aCons (dV 1) aNil))
def e2_init : TDE := (dDc (iSeq (dSort (dV 1))) (gNm 2) tYesD (dV 2) (dO2 bIx (dV 1) (dV 2)) [2])
theorem dcomp_new {α : Type} {g : TDG} {tt : TDT} {tk tv : TDE} {P : D → Prop} {env : De} (enc : α → D) (f : α → Key × D) : ∀ (l : List α) (acc : List (Key × D)), (∀ a ∈ l, ∀ (Q : Key → D → Prop) (Z : Prop), Q (f a).1 (f a).2 → g (enc a) env fun env' => tt env' fun b => if b = true then tk env' fun k => tv env' fun y => ob (keyD k) fun k => Q k y else Z) →
    (acc ++ l.map f).length ≤ 1000000 → ((acc ++ l.map f).map (·.1)).Nodup → P (.dic (acc ++ l.map f)) → dDcomp g tt tk tv P env (l.map enc) acc
  | [], acc, _, _, _, q => by
    rw [List.map_nil, List.append_nil] at q
    exact q
  | a :: l, acc, h, hl, nd, q => by
    refine h a List.mem_cons_self (fun k y => acc.length < sizeLine ∧ dDcomp g tt tk tv P env (l.map enc) (putD acc k y)) _ ⟨szM (by simp at hl; omega), ?_⟩
    have hk : (acc.any fun kd => decide (kd.1 = (f a).1)) = false := by
      rw [Bool.eq_false_iff]
      intro hz
      obtain ⟨q', hq, e⟩ := List.any_eq_true.mp hz
      have e := of_decide_eq_true e
      rw [List.map_append, List.nodup_append] at nd
      exact nd.2.2 q'.1 (List.mem_map.mpr ⟨q', hq, rfl⟩) (f a).1 (by simp) e
    have e2 : putD acc (f a).1 (f a).2 = acc ++ [f a] := by
      unfold putD
      rw [hk]
      rfl
    rw [e2]
    refine dcomp_new enc f l (acc ++ [f a]) (fun b hb => h b (List.mem_cons_of_mem _ hb)) ?_ ?_ ?_
    · rw [List.append_assoc]; exact hl
    · rw [List.append_assoc]; exact nd
    · rw [List.append_assoc]; exact q
theorem nodup_wk {us : List Win} (h : (nms us).Nodup) : ((us.map wk).map (·.1)).Nodup := by
  rw [List.map_map]
  have : ((fun kd : Key × D => kd.1) ∘ wk) = Sum.inr ∘ (fun w : Win => w.1) := rfl
  rw [this, ← List.map_map]
  exact nodup_inj (fun a b h => Sum.inr.inj h) h
def byNames (ws : List Win) (ys : List Str) : List Win := ys.map fun y => (y, (look ws y).getD ⟨0, 0, 0, 0⟩)
theorem nms_by (ws : List Win) (ys : List Str) : nms (byNames ws ys) = ys := by
  unfold nms byNames
  rw [List.map_map]
  exact List.map_id _
theorem by_perm {ws : List Win} (nd : (nms ws).Nodup) {ys : List Str} (h : ys.Perm (nms ws)) : (byNames ws ys).Perm ws := by
  have h1 : (byNames ws ys).Perm (byNames ws (nms ws)) := h.map _
  have h2 : byNames ws (nms ws) = ws := by
    unfold byNames nms
    rw [List.map_map]
    have : ∀ w ∈ ws, ((fun y => (y, (look ws y).getD ⟨0, 0, 0, 0⟩)) ∘ fun w : Win => w.1) w = w := fun w hw => by
      show (w.1, (look ws w.1).getD ⟨0, 0, 0, 0⟩) = w
      rw [look_mem nd hw]
      rfl
    rw [List.map_congr_left this, List.map_id']
  rw [h2] at h1
  exact h1
theorem rd_Desk___init {ds : List D} {P : D → Prop} (h : sp_Desk___init ds P) : e1_init (.no :: st 2 ds) fun _ => e2_init (.no :: st 2 ds) P := by
  obtain ⟨ws, rfl, W, l1, l2, q⟩ := h
  simp only [e1_init, e2_init, dC, dV, dB, dO2, ob_some, dT, dAndT, dOrT, dNotT, dIf, dAndV, dOrV, dNotV, dChain, aNil, aCons, dTup, dLst, dCut, oNone, oSome, dRev, dNeg, dTru, dCa, dIs, dIsA, dCall, dCallK, sNil, sSeq, sNever, sBrk, sCont, sIf, sRet, sRetO, sRetE, sSet, sSetO, sDrop, sPar, sPar3, kn, enOf, owD, sAsg, gNm, gsNil, gsCons, gTp, sApp, sIns, sExt, sClr, sRev, sPut, sFrz, owAt, fin, st, iRng, iRngB, iSeq, lstD, tupD, sFor, dLc, dDc, wipeE, tYesD, dIndex, dSort, dDictZip, dMeth, dFld, dMk, List.map_cons, List.map_nil, List.length_cons, List.length_nil, List.replicate_succ, List.replicate_zero, List.cons_append, List.nil_append, List.append_nil, List.getElem?_cons_zero, List.getElem?_cons_succ, List.set_cons_zero, List.set_cons_succ, Option.bind_some, Option.map_some, Nat.reduceSub, Nat.reduceAdd, kwP, List.getD_cons_zero, List.getD_cons_succ]
  refine ⟨ws, rfl, W, l1, l2, ?_⟩
  simp only [winD]
  refine .inl ⟨_, txtKeys_win ws, by unfold nms; rw [List.length_map]; omega, fun ys hs => ?_⟩
  have hp := by_perm W.nd hs.1
  have hlen : ys.length ≤ 24 := by rw [hs.1.length_eq]; unfold nms; rw [List.length_map]; exact l2
  have eb : (ys.map fun y => wk (y, (look ws y).getD ⟨0, 0, 0, 0⟩)) = (byNames ws ys).map wk := by
    unfold byNames
    rw [List.map_map]
    rfl
  refine dcomp_new D.str (fun y => wk (y, (look ws y).getD ⟨0, 0, 0, 0⟩)) ys [] (fun y hy Q Z hQ => ?_) (by simp; omega) ?_ ?_
  · obtain ⟨_, r, hr, _⟩ := sort_name W hs y hy
    have ex : bIx (.dic (ws.map wk)) (.str y) = some (rectD r) := bIx_win hr
    rw [hr] at hQ
    simp only [dC, dV, dB, dO2, ob_some, dT, dAndT, dOrT, dNotT, dIf, dAndV, dOrV, dNotV, dChain, aNil, aCons, dTup, dLst, dCut, oNone, oSome, dRev, dNeg, dTru, dCa, dIs, dIsA, dCall, dCallK, sNil, sSeq, sNever, sBrk, sCont, sIf, sRet, sRetO, sRetE, sSet, sSetO, sDrop, sPar, sPar3, kn, enOf, owD, sAsg, gNm, gsNil, gsCons, gTp, sApp, sIns, sExt, sClr, sRev, sPut, sFrz, owAt, fin, st, iRng, iRngB, iSeq, lstD, tupD, sFor, dLc, dDc, wipeE, tYesD, dIndex, dSort, dDictZip, dMeth, dFld, dMk, List.map_cons, List.map_nil, List.length_cons, List.length_nil, List.replicate_succ, List.replicate_zero, List.cons_append, List.nil_append, List.append_nil, List.getElem?_cons_zero, List.getElem?_cons_succ, List.set_cons_zero, List.set_cons_succ, Option.bind_some, Option.map_some, Nat.reduceSub, Nat.reduceAdd, kwP, List.getD_cons_zero, List.getD_cons_succ, ex, keyD, if_true]
    exact hQ
  · rw [List.nil_append, eb]
    exact nodup_wk (by rw [nms_by]; exact hs.1.nodup_iff.mpr W.nd)
  · rw [List.nil_append, eb]
    exact q _ hp (by unfold SortW; rw [nms_by]; exact sorted_of hs.2)
end DL
namespace DL
open PySem PySem.Spec PyProof.Rows L2 RK
def mx (i j : Int) : Int := if j > i then j else i
def mn (i j : Int) : Int := if j < i then j else i
def meetB (p q : R) : Bool := decide (mx p.l q.l < mn p.r q.r) && decide (mx p.t q.t < mn p.b q.b)
def comD (p q : R) : D := if meetB p q = true then .tup [.int (mx p.l q.l), .int (mx p.t q.t), .int (mn p.r q.r), .int (mn p.b q.b)] else .non
theorem ri0 (r : R) : bIx (rectD r) (.int 0) = some (.int r.l) := rfl
theorem ri1 (r : R) : bIx (rectD r) (.int 1) = some (.int r.t) := rfl
theorem ri2 (r : R) : bIx (rectD r) (.int 2) = some (.int r.r) := rfl
theorem ri3 (r : R) : bIx (rectD r) (.int 3) = some (.int r.b) := rfl
theorem mx_d (i j : Int) : max2D [.int i, .int j] = some (.int (mx i j)) := rfl
theorem mn_d (i j : Int) : min2D [.int i, .int j] = some (.int (mn i j)) := rfl
def sp_common : DSp := fun ds P => ∃ p q, ds = [rectD p, rectD q] ∧ P (comD p q)
def d_common : TDS := (sSeq (sSet 2 (dCa max2D (aCons (dO2 bIx (dV 0) (dC (.int 0))) (aCons (dO2 bIx (dV 1) (dC (.int 0))) aNil))))
  (sSeq (sSet 3 (dCa max2D (aCons (dO2 bIx (dV 0) (dC (.int 1))) (aCons (dO2 bIx (dV 1) (dC (.int 1))) aNil))))
  (sSeq (sSet 4 (dCa min2D (aCons (dO2 bIx (dV 0) (dC (.int 2))) (aCons (dO2 bIx (dV 1) (dC (.int 2))) aNil))))
  (sSeq (sSet 5 (dCa min2D (aCons (dO2 bIx (dV 0) (dC (.int 3))) (aCons (dO2 bIx (dV 1) (dC (.int 3))) aNil))))
  (sSeq (sIf (dAndT (dT (dO2 bLt (dV 2) (dV 4))) (dT (dO2 bLt (dV 3) (dV 5)))) (sRet (dTup (aCons (dV 2) (aCons (dV 3) (aCons (dV 4) (aCons (dV 5) aNil)))))) sNil)
  (sRet (dC .non)))))))
theorem rd_common {ds : List D} {P : D → Prop} (h : sp_common ds P) : d_common (fin false P) (st 6 ds) := by
  obtain ⟨p, q, rfl, h⟩ := h
  simp only [d_common, dC, dV, dB, dO2, ob_some, dT, dAndT, dOrT, dNotT, dIf, dAndV, dOrV, dNotV, dChain, aNil, aCons, dTup, dLst, dCut, oNone, oSome, dRev, dNeg, dTru, dCa, dIs, dIsA, dCall, dCallK, sNil, sSeq, sNever, sBrk, sCont, sIf, sRet, sRetO, sRetE, sSet, sSetO, sDrop, sPar, sPar3, kn, enOf, owD, sAsg, gNm, gsNil, gsCons, gTp, sApp, sIns, sExt, sClr, sRev, sPut, sFrz, owAt, fin, st, iRng, iRngB, iSeq, lstD, tupD, sFor, dLc, dDc, wipeE, tYesD, dIndex, dSort, dDictZip, dMeth, dFld, dMk, List.map_cons, List.map_nil, List.length_cons, List.length_nil, List.replicate_succ, List.replicate_zero, List.cons_append, List.nil_append, List.append_nil, List.getElem?_cons_zero, List.getElem?_cons_succ, List.set_cons_zero, List.set_cons_succ, Option.bind_some, Option.map_some, Nat.reduceSub, Nat.reduceAdd, kwP, List.getD_cons_zero, List.getD_cons_succ, ri0, ri1, ri2, ri3, mx_d, mn_d, bLt_i]
  unfold comD meetB at h
  cases h1 : decide (mx p.l q.l < mn p.r q.r) with
  | false =>
    rw [h1] at h
    simpa using h
  | true =>
    cases h2 : decide (mx p.t q.t < mn p.b q.b) with
    | false =>
      rw [h1, h2] at h
      simpa using h
    | true =>
      rw [h1, h2] at h
      simp only [if_true]
      exact ⟨by decide, h⟩
def ovl (us : List Win) (a b : Str) : Bool := match look us a, look us b with | some p, some q => meetB p q | _, _ => false
def sp_Desk_overlap (C : Addr) : DSp := fun ds P => ∃ us a b p q, ds = [deskD C us, .str a, .str b] ∧ look us a = some p ∧ look us b = some q ∧ P (.bl (meetB p q))
def d_Desk_overlap (C_Desk : Addr) : TDS := (sSeq (sSet 3 (dMeth C_Desk "rectangle" (sp_Desk_rectangle C_Desk) (dV 0) (aCons (dV 1) aNil)))
  (sSeq (sSet 4 (dMeth C_Desk "rectangle" (sp_Desk_rectangle C_Desk) (dV 0) (aCons (dV 2) aNil)))
  (sRet (dO2 (bIsN true) (dCall sp_common (aCons (dV 3) (aCons (dV 4) aNil))) (dC .non)))))
theorem comD_n (p q : R) : (bIsN true (comD p q) .non) = some (.bl (meetB p q)) := by
  unfold comD
  cases meetB p q <;> rfl
theorem rd_Desk_overlap {C : Addr} {ds : List D} {P : D → Prop} (h : sp_Desk_overlap C ds P) : d_Desk_overlap C (fin false P) (st 5 ds) := by
  obtain ⟨us, a, b, p, q, rfl, hp, hq, h⟩ := h
  have hn : (("rectangle" : Str) == ("windows" : Str)) = false := by decide +kernel
  simp only [d_Desk_overlap, dC, dV, dB, dO2, ob_some, dT, dAndT, dOrT, dNotT, dIf, dAndV, dOrV, dNotV, dChain, aNil, aCons, dTup, dLst, dCut, oNone, oSome, dRev, dNeg, dTru, dCa, dIs, dIsA, dCall, dCallK, sNil, sSeq, sNever, sBrk, sCont, sIf, sRet, sRetO, sRetE, sSet, sSetO, sDrop, sPar, sPar3, kn, enOf, owD, sAsg, gNm, gsNil, gsCons, gTp, sApp, sIns, sExt, sClr, sRev, sPut, sFrz, owAt, fin, st, iRng, iRngB, iSeq, lstD, tupD, sFor, dLc, dDc, wipeE, tYesD, dIndex, dSort, dDictZip, dMeth, dFld, dMk, List.map_cons, List.map_nil, List.length_cons, List.length_nil, List.replicate_succ, List.replicate_zero, List.cons_append, List.nil_append, List.append_nil, List.getElem?_cons_zero, List.getElem?_cons_succ, List.set_cons_zero, List.set_cons_succ, Option.bind_some, Option.map_some, Nat.reduceSub, Nat.reduceAdd, kwP, List.getD_cons_zero, List.getD_cons_succ, deskD, no_m hn]
  refine ⟨trivial, trivial, us, a, p, rfl, hp, trivial, trivial, us, b, q, rfl, hq, p, q, rfl, ?_⟩
  show ob (bIsN true (comD p q) .non) P
  rw [comD_n]
  exact h
def prs (ov : Str → Str → Bool) : List Str → List SP
  | [] => []
  | n :: r => (r.filter (ov n)).map (fun m => (n, m)) ++ prs ov r
theorem prs_len (ov : Str → Str → Bool) : ∀ l : List Str, (prs ov l).length ≤ l.length * l.length
  | [] => by simp [prs]
  | n :: r => by
    have := prs_len ov r
    have h2 := List.length_filter_le (ov n) r
    rw [prs, List.length_append, List.length_map, List.length_cons]
    have h3 : (r.length + 1) * (r.length + 1) = r.length * r.length + 2 * r.length + 1 := by
      rw [Nat.add_mul, Nat.mul_add]
      omega
    omega
theorem prs_mem (ov : Str → Str → Bool) : ∀ (l : List Str) (p : SP), p ∈ prs ov l → p.1 ∈ l ∧ p.2 ∈ l
  | [], p, h => by cases h
  | n :: r, p, h => by
    rw [prs] at h
    rcases List.mem_append.mp h with h | h
    · obtain ⟨m, hm, rfl⟩ := List.mem_map.mp h
      exact ⟨List.mem_cons_self, List.mem_cons_of_mem _ (List.mem_filter.mp hm).1⟩
    · exact ⟨List.mem_cons_of_mem _ (prs_mem ov r p h).1, List.mem_cons_of_mem _ (prs_mem ov r p h).2⟩
theorem cut_from (xs : List D) (k : Nat) : cutD xs (some ((k : Int) + 1)) none = xs.drop (k + 1) := by
  have e : ((k : Int) + 1) = ((k + 1 : Nat) : Int) := rfl
  unfold cutD
  rw [e, HT.sIx_nat, HT.sIx_none]
  rcases Nat.le_total (k + 1) xs.length with h | h
  · rw [Nat.min_eq_left h, List.take_of_length_le (by rw [List.length_drop]; omega)]
  · rw [Nat.min_eq_right h, List.drop_eq_nil_of_le (Nat.le_refl _), List.drop_eq_nil_of_le h, List.take_nil]
def sp_Desk_pairs (C : Addr) : DSp := fun ds P => ∃ us, ds = [deskD C us] ∧ us.length ≤ 24 ∧ (nms us).Nodup ∧ P (.lst ((prs (ovl us) (nms us)).map pairD))
def d_Desk_pairs (C_Desk : Addr) : TDS := (sSeq (sSet 1 (dMeth C_Desk "names" (sp_Desk_names C_Desk) (dV 0) aNil))
  (sSeq (sSetO 2 (dLst aNil))
  (sSeq (sFor (iEnu (dV 1)) (gTp 2 (gsCons (gNm 3) (gsCons (gNm 4) gsNil))) (sExt 2 (dLc (iSeq (dCut cutA (dV 1) (oSome (dO2 bAdd (dV 3) (dC (.int 1)))) oNone)) (gNm 5) (dT (dMeth C_Desk "overlap" (sp_Desk_overlap C_Desk) (dV 0) (aCons (dV 4) (aCons (dV 5) aNil)))) (dTup (aCons (dV 4) (aCons (dV 5) aNil))) [5])))
  (sRetO 2))))
theorem rd_Desk_pairs {C : Addr} {ds : List D} {P : D → Prop} (h : sp_Desk_pairs C ds P) : d_Desk_pairs C (fin false P) (st 6 ds) := by
  obtain ⟨us, rfl, hl, nd, q⟩ := h
  have hn : (("names" : Str) == ("windows" : Str)) = false := by decide +kernel
  have ho : (("overlap" : Str) == ("windows" : Str)) = false := by decide +kernel
  have nl : (nms us).length ≤ 24 := by unfold nms; rw [List.length_map]; exact hl
  simp only [d_Desk_pairs, dC, dV, dB, dO2, ob_some, dT, dAndT, dOrT, dNotT, dIf, dAndV, dOrV, dNotV, dChain, aNil, aCons, dTup, dLst, dCut, oNone, oSome, dRev, dNeg, dTru, dCa, dIs, dIsA, dCall, dCallK, sNil, sSeq, sNever, sBrk, sCont, sIf, sRet, sRetO, sRetE, sSet, sSetO, sDrop, sPar, sPar3, kn, enOf, owD, sAsg, gNm, gsNil, gsCons, gTp, sApp, sIns, sExt, sClr, sRev, sPut, sFrz, owAt, fin, st, iRng, iRngB, iSeq, lstD, tupD, sFor, dLc, dDc, wipeE, tYesD, dIndex, dSort, dDictZip, dMeth, dFld, dMk, List.map_cons, List.map_nil, List.length_cons, List.length_nil, List.replicate_succ, List.replicate_zero, List.cons_append, List.nil_append, List.append_nil, List.getElem?_cons_zero, List.getElem?_cons_succ, List.set_cons_zero, List.set_cons_succ, Option.bind_some, Option.map_some, Nat.reduceSub, Nat.reduceAdd, kwP, List.getD_cons_zero, List.getD_cons_succ, deskD, no_m hn]
  refine ⟨trivial, trivial, us, rfl, by decide, ?_⟩
  simp only [iEnu, dC, dV, dB, dO2, ob_some, dT, dAndT, dOrT, dNotT, dIf, dAndV, dOrV, dNotV, dChain, aNil, aCons, dTup, dLst, dCut, oNone, oSome, dRev, dNeg, dTru, dCa, dIs, dIsA, dCall, dCallK, sNil, sSeq, sNever, sBrk, sCont, sIf, sRet, sRetO, sRetE, sSet, sSetO, sDrop, sPar, sPar3, kn, enOf, owD, sAsg, gNm, gsNil, gsCons, gTp, sApp, sIns, sExt, sClr, sRev, sPut, sFrz, owAt, fin, st, iRng, iRngB, iSeq, lstD, tupD, sFor, dLc, dDc, wipeE, tYesD, dIndex, dSort, dDictZip, dMeth, dFld, dMk, List.map_cons, List.map_nil, List.length_cons, List.length_nil, List.replicate_succ, List.replicate_zero, List.cons_append, List.nil_append, List.append_nil, List.getElem?_cons_zero, List.getElem?_cons_succ, List.set_cons_zero, List.set_cons_succ, Option.bind_some, Option.map_some, Nat.reduceSub, Nat.reduceAdd, kwP, List.getD_cons_zero, List.getD_cons_succ]
  refine .inl ?_
  have key : ∀ (post : List Str) (k : Nat) (acc : List SP) (e3 e4 e5 : En), (nms us).drop k = post → acc ++ prs (ovl us) post = prs (ovl us) (nms us) →
      sLoop (gTp 2 (gsCons (gNm 3) (gsCons (gNm 4) gsNil))) (sExt 2 (dLc (iSeq (dCut cutA (dV 1) (oSome (dO2 bAdd (dV 3) (dC (.int 1)))) oNone)) (gNm 5) (dT (dMeth C "overlap" (sp_Desk_overlap C) (dV 0) (aCons (dV 4) (aCons (dV 5) aNil)))) (dTup (aCons (dV 4) (aCons (dV 5) aNil))) [5])) { fin false P with nx := sRetO 2 (fin false P) } (enuD k (post.map D.str)) [.fz (deskD C us), .fz (.lst ((nms us).map D.str)), .ow (acc.map pairD), e3, e4, e5] := by
    intro post
    induction post with
    | nil =>
      intro k acc e3 e4 e5 _ ha
      simp only [List.map_nil, enuD, sLoop, dC, dV, dB, dO2, ob_some, dT, dAndT, dOrT, dNotT, dIf, dAndV, dOrV, dNotV, dChain, aNil, aCons, dTup, dLst, dCut, oNone, oSome, dRev, dNeg, dTru, dCa, dIs, dIsA, dCall, dCallK, sNil, sSeq, sNever, sBrk, sCont, sIf, sRet, sRetO, sRetE, sSet, sSetO, sDrop, sPar, sPar3, kn, enOf, owD, sAsg, gNm, gsNil, gsCons, gTp, sApp, sIns, sExt, sClr, sRev, sPut, sFrz, owAt, fin, st, iRng, iRngB, iSeq, lstD, tupD, sFor, dLc, dDc, wipeE, tYesD, dIndex, dSort, dDictZip, dMeth, dFld, dMk, List.map_cons, List.map_nil, List.length_cons, List.length_nil, List.replicate_succ, List.replicate_zero, List.cons_append, List.nil_append, List.append_nil, List.getElem?_cons_zero, List.getElem?_cons_succ, List.set_cons_zero, List.set_cons_succ, Option.bind_some, Option.map_some, Nat.reduceSub, Nat.reduceAdd, kwP, List.getD_cons_zero, List.getD_cons_succ]
      rw [prs, List.append_nil] at ha
      rw [ha]
      exact q
    | cons n r ih =>
      intro k acc e3 e4 e5 hd ha
      have hk : k < (nms us).length := by
        rcases Nat.lt_or_ge k (nms us).length with h | h
        · exact h
        · rw [List.drop_eq_nil_of_le h] at hd
          cases hd
      have hd2 : (nms us).drop (k + 1) = r := by
        rw [List.drop_eq_getElem_cons hk] at hd
        exact (List.cons.inj hd).2
      have mem : ∀ z ∈ n :: r, z ∈ nms us := fun z hz => by rw [← hd] at hz; exact List.mem_of_mem_drop hz
      simp only [List.map_cons, enuD, sLoop, dC, dV, dB, dO2, ob_some, dT, dAndT, dOrT, dNotT, dIf, dAndV, dOrV, dNotV, dChain, aNil, aCons, dTup, dLst, dCut, oNone, oSome, dRev, dNeg, dTru, dCa, dIs, dIsA, dCall, dCallK, sNil, sSeq, sNever, sBrk, sCont, sIf, sRet, sRetO, sRetE, sSet, sSetO, sDrop, sPar, sPar3, kn, enOf, owD, sAsg, gNm, gsNil, gsCons, gTp, sApp, sIns, sExt, sClr, sRev, sPut, sFrz, owAt, fin, st, iRng, iRngB, iSeq, lstD, tupD, sFor, dLc, dDc, wipeE, tYesD, dIndex, dSort, dDictZip, dMeth, dFld, dMk, List.map_cons, List.map_nil, List.length_cons, List.length_nil, List.replicate_succ, List.replicate_zero, List.cons_append, List.nil_append, List.append_nil, List.getElem?_cons_zero, List.getElem?_cons_succ, List.set_cons_zero, List.set_cons_succ, Option.bind_some, Option.map_some, Nat.reduceSub, Nat.reduceAdd, kwP, List.getD_cons_zero, List.getD_cons_succ, bAdd_i, cutA, cut_from]
      refine ⟨trivial, trivial, .inl ?_⟩
      rw [← List.map_drop, hd2]
      refine comp_filter D.str (fun m => pairD (n, m)) (ovl us n) r [] (fun m hm Q Z h1 h2 => ?_) (by have := congrArg List.length hd2; simp at this ⊢; omega) ?_
      · obtain ⟨p1, hp1, _⟩ := look_ex nd (mem n List.mem_cons_self)
        obtain ⟨p2, hp2, _⟩ := look_ex nd (mem m (List.mem_cons_of_mem _ hm))
        simp only [dC, dV, dB, dO2, ob_some, dT, dAndT, dOrT, dNotT, dIf, dAndV, dOrV, dNotV, dChain, aNil, aCons, dTup, dLst, dCut, oNone, oSome, dRev, dNeg, dTru, dCa, dIs, dIsA, dCall, dCallK, sNil, sSeq, sNever, sBrk, sCont, sIf, sRet, sRetO, sRetE, sSet, sSetO, sDrop, sPar, sPar3, kn, enOf, owD, sAsg, gNm, gsNil, gsCons, gTp, sApp, sIns, sExt, sClr, sRev, sPut, sFrz, owAt, fin, st, iRng, iRngB, iSeq, lstD, tupD, sFor, dLc, dDc, wipeE, tYesD, dIndex, dSort, dDictZip, dMeth, dFld, dMk, List.map_cons, List.map_nil, List.length_cons, List.length_nil, List.replicate_succ, List.replicate_zero, List.cons_append, List.nil_append, List.append_nil, List.getElem?_cons_zero, List.getElem?_cons_succ, List.set_cons_zero, List.set_cons_succ, Option.bind_some, Option.map_some, Nat.reduceSub, Nat.reduceAdd, kwP, List.getD_cons_zero, List.getD_cons_succ, deskD, no_m ho]
        refine ⟨trivial, trivial, us, n, m, p1, p2, rfl, hp1, hp2, ?_⟩
        have eo : ovl us n m = meetB p1 p2 := by unfold ovl; rw [hp1, hp2]
        rw [eo] at h1 h2
        cases hc : meetB p1 p2 with
        | true => exact ⟨by decide, h1 hc⟩
        | false => exact h2 hc
      · simp only [List.nil_append, dC, dV, dB, dO2, ob_some, dT, dAndT, dOrT, dNotT, dIf, dAndV, dOrV, dNotV, dChain, aNil, aCons, dTup, dLst, dCut, oNone, oSome, dRev, dNeg, dTru, dCa, dIs, dIsA, dCall, dCallK, sNil, sSeq, sNever, sBrk, sCont, sIf, sRet, sRetO, sRetE, sSet, sSetO, sDrop, sPar, sPar3, kn, enOf, owD, sAsg, gNm, gsNil, gsCons, gTp, sApp, sIns, sExt, sClr, sRev, sPut, sFrz, owAt, fin, st, iRng, iRngB, iSeq, lstD, tupD, sFor, dLc, dDc, wipeE, tYesD, dIndex, dSort, dDictZip, dMeth, dFld, dMk, List.map_cons, List.map_nil, List.length_cons, List.length_nil, List.replicate_succ, List.replicate_zero, List.cons_append, List.nil_append, List.append_nil, List.getElem?_cons_zero, List.getElem?_cons_succ, List.set_cons_zero, List.set_cons_succ, Option.bind_some, Option.map_some, Nat.reduceSub, Nat.reduceAdd, kwP, List.getD_cons_zero, List.getD_cons_succ]
        refine ⟨?_, ?_⟩
        · have h1 := congrArg List.length ha
          have h2 := prs_len (ovl us) (nms us)
          have h3 : (nms us).length * (nms us).length ≤ 24 * 24 := Nat.mul_le_mul nl nl
          rw [prs] at h1
          simp only [List.length_append, List.length_map] at h1 ⊢
          exact Nat.le_of_lt (szM (by omega))
        · have em : acc.map pairD ++ (r.filter (ovl us n)).map (fun m => pairD (n, m)) = (acc ++ (r.filter (ovl us n)).map fun m => (n, m)).map pairD := by
            rw [List.map_append, List.map_map]
            rfl
          rw [em]
          refine ih (k + 1) _ _ _ _ hd2 ?_
          rw [List.append_assoc]
          exact ha
  exact key (nms us) 0 [] _ _ _ rfl rfl
def ixS : List Str → Str → Nat
  | [], _ => 0
  | y :: r, z => if y = z then 0 else ixS r z + 1
def plcF (p : Str × Nat) : Key × D := (Sum.inr p.1, .int ((p.2 : Nat) : Int))
def plcD (zs : List Str) : D := .dic ((zs.zipIdx).map plcF)
theorem enu_zip : ∀ (zs : List Str) (k : Nat), enuD k (zs.map D.str) = (zs.zipIdx k).map fun p => .tup [.int ((p.2 : Nat) : Int), .str p.1]
  | [], _ => rfl
  | z :: zs, k => by rw [List.map_cons, enuD, enu_zip zs (k + 1), List.zipIdx_cons, List.map_cons]
theorem val_plc : ∀ (zs : List Str) (k : Nat) (z : Str), z ∈ zs → valD ((zs.zipIdx k).map plcF) (Sum.inr z : Key) = some (.int ((k + ixS zs z : Nat) : Int))
  | [], _, _, h => by cases h
  | y :: r, k, z, h => by
    unfold valD
    rw [List.zipIdx_cons, List.map_cons, List.find?_cons]
    have e : decide ((plcF (y, k)).1 = (Sum.inr z : Key)) = decide (y = z) := decide_eq_decide.mpr inr_inj
    rw [e, ixS]
    by_cases hz : y = z
    · rw [decide_eq_true hz, if_pos hz]
      rfl
    · rw [decide_eq_false hz, if_neg hz]
      have := val_plc r (k + 1) z ((List.mem_cons.mp h).resolve_left fun e => hz e.symm)
      unfold valD at this
      rw [this]
      have : k + 1 + ixS r z = k + (ixS r z + 1) := by omega
      rw [this]
theorem bIx_plc {zs : List Str} {z : Str} (h : z ∈ zs) : bIx (plcD zs) (.str z) = some (.int ((ixS zs z : Nat) : Int)) := by
  show (none : Option D).or ((none : Option D).or ((some (valD ((zs.zipIdx).map plcF) (Sum.inr z : Key))).bind fun r => r)) = _
  rw [val_plc zs 0 z h, Nat.zero_add]
  rfl
def sp_places : DSp := fun ds P => ∃ d zs, ds = [d] ∧ IsSeq d zs ∧ zs.length ≤ 100000 ∧ zs.Nodup ∧ P (plcD zs)
def d_places : TDS := (sRet (dDc (iEnu (dV 0)) (gTp 2 (gsCons (gNm 1) (gsCons (gNm 2) gsNil))) tYesD (dV 2) (dV 1) [1, 2]))
theorem rd_places {ds : List D} {P : D → Prop} (h : sp_places ds P) : d_places (fin true P) (st 3 ds) := by
  obtain ⟨d, zs, rfl, hd, hl, nd, q⟩ := h
  have key : ∀ e1 : En, dDcomp (gTp 2 (gsCons (gNm 1) (gsCons (gNm 2) gsNil))) tYesD (dV 2) (dV 1) P [e1, .no, .no] (enuD 0 (zs.map D.str)) [] := fun e1 => by
    rw [enu_zip]
    refine dcomp_new (fun p : Str × Nat => D.tup [.int ((p.2 : Nat) : Int), .str p.1]) plcF zs.zipIdx [] (fun p hp Q Z hQ => ?_) (by simp; omega) ?_ q
    · simp only [dC, dV, dB, dO2, ob_some, dT, dAndT, dOrT, dNotT, dIf, dAndV, dOrV, dNotV, dChain, aNil, aCons, dTup, dLst, dCut, oNone, oSome, dRev, dNeg, dTru, dCa, dIs, dIsA, dCall, dCallK, sNil, sSeq, sNever, sBrk, sCont, sIf, sRet, sRetO, sRetE, sSet, sSetO, sDrop, sPar, sPar3, kn, enOf, owD, sAsg, gNm, gsNil, gsCons, gTp, sApp, sIns, sExt, sClr, sRev, sPut, sFrz, owAt, fin, st, iRng, iRngB, iSeq, lstD, tupD, sFor, dLc, dDc, wipeE, tYesD, dIndex, dSort, dDictZip, dMeth, dFld, dMk, List.map_cons, List.map_nil, List.length_cons, List.length_nil, List.replicate_succ, List.replicate_zero, List.cons_append, List.nil_append, List.append_nil, List.getElem?_cons_zero, List.getElem?_cons_succ, List.set_cons_zero, List.set_cons_succ, Option.bind_some, Option.map_some, Nat.reduceSub, Nat.reduceAdd, kwP, List.getD_cons_zero, List.getD_cons_succ, keyD, if_true]
      exact ⟨trivial, trivial, hQ⟩
    · rw [List.nil_append, List.map_map]
      have : ((fun kd : Key × D => kd.1) ∘ plcF) = Sum.inr ∘ (Prod.fst : Str × Nat → Str) := rfl
      rw [this, ← List.map_map]
      refine nodup_inj (fun a b h => Sum.inr.inj h) ?_
      rw [List.zipIdx_map_fst]
      exact nd
  rcases hd with rfl | rfl
  · simp only [d_places, dC, dV, dB, dO2, ob_some, dT, dAndT, dOrT, dNotT, dIf, dAndV, dOrV, dNotV, dChain, aNil, aCons, dTup, dLst, dCut, oNone, oSome, dRev, dNeg, dTru, dCa, dIs, dIsA, dCall, dCallK, sNil, sSeq, sNever, sBrk, sCont, sIf, sRet, sRetO, sRetE, sSet, sSetO, sDrop, sPar, sPar3, kn, enOf, owD, sAsg, gNm, gsNil, gsCons, gTp, sApp, sIns, sExt, sClr, sRev, sPut, sFrz, owAt, fin, st, iRng, iRngB, iSeq, lstD, tupD, sFor, dLc, dDc, wipeE, tYesD, dIndex, dSort, dDictZip, dMeth, dFld, dMk, List.map_cons, List.map_nil, List.length_cons, List.length_nil, List.replicate_succ, List.replicate_zero, List.cons_append, List.nil_append, List.append_nil, List.getElem?_cons_zero, List.getElem?_cons_succ, List.set_cons_zero, List.set_cons_succ, Option.bind_some, Option.map_some, Nat.reduceSub, Nat.reduceAdd, kwP, List.getD_cons_zero, List.getD_cons_succ, iEnu]
    exact .inl (key _)
  · simp only [d_places, dC, dV, dB, dO2, ob_some, dT, dAndT, dOrT, dNotT, dIf, dAndV, dOrV, dNotV, dChain, aNil, aCons, dTup, dLst, dCut, oNone, oSome, dRev, dNeg, dTru, dCa, dIs, dIsA, dCall, dCallK, sNil, sSeq, sNever, sBrk, sCont, sIf, sRet, sRetO, sRetE, sSet, sSetO, sDrop, sPar, sPar3, kn, enOf, owD, sAsg, gNm, gsNil, gsCons, gTp, sApp, sIns, sExt, sClr, sRev, sPut, sFrz, owAt, fin, st, iRng, iRngB, iSeq, lstD, tupD, sFor, dLc, dDc, wipeE, tYesD, dIndex, dSort, dDictZip, dMeth, dFld, dMk, List.map_cons, List.map_nil, List.length_cons, List.length_nil, List.replicate_succ, List.replicate_zero, List.cons_append, List.nil_append, List.append_nil, List.getElem?_cons_zero, List.getElem?_cons_succ, List.set_cons_zero, List.set_cons_succ, Option.bind_some, Option.map_some, Nat.reduceSub, Nat.reduceAdd, kwP, List.getD_cons_zero, List.getD_cons_succ, iEnu]
    exact .inr (key _)
def ori (zs : List Str) (p : SP) : SP := if ixS zs p.1 < ixS zs p.2 then p else (p.2, p.1)
def wsh (us : List Win) (zs : List Str) : List SP := srtP ((prs (ovl us) (nms us)).map (ori zs))
theorem wsh_mem {us : List Win} {zs : List Str} {p : SP} (h : p ∈ wsh us zs) : p.1 ∈ nms us ∧ p.2 ∈ nms us := by
  obtain ⟨q, hq, rfl⟩ := List.mem_map.mp ((srtP_perm _).mem_iff.mp h)
  have := prs_mem _ _ q hq
  unfold ori
  by_cases c : ixS zs q.1 < ixS zs q.2
  · rw [if_pos c]; exact this
  · rw [if_neg c]; exact ⟨this.2, this.1⟩
theorem wsh_len {us : List Win} (zs : List Str) (h : us.length ≤ 24) : (wsh us zs).length ≤ 576 := by
  have h1 := (srtP_perm ((prs (ovl us) (nms us)).map (ori zs))).length_eq
  rw [List.length_map] at h1
  have h2 := prs_len (ovl us) (nms us)
  have nl : (nms us).length ≤ 24 := by unfold nms; rw [List.length_map]; exact h
  have h3 : (nms us).length * (nms us).length ≤ 24 * 24 := Nat.mul_le_mul nl nl
  unfold wsh
  omega
def sp_wish_of (C : Addr) : DSp := fun ds P => ∃ us d zs, ds = [deskD C us, d] ∧ IsSeq d zs ∧ us.length ≤ 24 ∧ (nms us).Nodup ∧ zs.Perm (nms us) ∧ P (.lst ((wsh us zs).map pairD))
def d_wish_of (C_Desk : Addr) : TDS := (sSeq (sDrop (dCall (sp_check_order C_Desk) (aCons (dV 0) (aCons (dV 1) aNil))))
  (sSeq (sSet 2 (dCall sp_places (aCons (dV 1) aNil)))
  (sRet (dSortP (dLc (iSeq (dMeth C_Desk "pairs" (sp_Desk_pairs C_Desk) (dV 0) aNil)) (gTp 2 (gsCons (gNm 3) (gsCons (gNm 4) gsNil))) tYesD (dIf (dT (dO2 bLt (dO2 bIx (dV 2) (dV 3)) (dO2 bIx (dV 2) (dV 4)))) (dTup (aCons (dV 3) (aCons (dV 4) aNil))) (dTup (aCons (dV 4) (aCons (dV 3) aNil)))) [3, 4])))))
theorem rd_wish_of {C : Addr} {ds : List D} {P : D → Prop} (h : sp_wish_of C ds P) : d_wish_of C (fin true P) (st 5 ds) := by
  obtain ⟨us, d, zs, rfl, hd, hl, nd, hp, q⟩ := h
  have nl : (nms us).length ≤ 24 := by unfold nms; rw [List.length_map]; exact hl
  have hn : (("pairs" : Str) == ("windows" : Str)) = false := by decide +kernel
  simp only [d_wish_of, dC, dV, dB, dO2, ob_some, dT, dAndT, dOrT, dNotT, dIf, dAndV, dOrV, dNotV, dChain, aNil, aCons, dTup, dLst, dCut, oNone, oSome, dRev, dNeg, dTru, dCa, dIs, dIsA, dCall, dCallK, sNil, sSeq, sNever, sBrk, sCont, sIf, sRet, sRetO, sRetE, sSet, sSetO, sDrop, sPar, sPar3, kn, enOf, owD, sAsg, gNm, gsNil, gsCons, gTp, sApp, sIns, sExt, sClr, sRev, sPut, sFrz, owAt, fin, st, iRng, iRngB, iSeq, lstD, tupD, sFor, dLc, dDc, wipeE, tYesD, dIndex, dSort, dDictZip, dMeth, dFld, dMk, List.map_cons, List.map_nil, List.length_cons, List.length_nil, List.replicate_succ, List.replicate_zero, List.cons_append, List.nil_append, List.append_nil, List.getElem?_cons_zero, List.getElem?_cons_succ, List.set_cons_zero, List.set_cons_succ, Option.bind_some, Option.map_some, Nat.reduceSub, Nat.reduceAdd, kwP, List.getD_cons_zero, List.getD_cons_succ]
  refine ⟨us, d, zs, rfl, hd, hl, ord_of hp, d, zs, rfl, hd, by rw [hp.length_eq]; omega, hp.nodup_iff.mpr nd, ?_⟩
  simp only [dSortP, dC, dV, dB, dO2, ob_some, dT, dAndT, dOrT, dNotT, dIf, dAndV, dOrV, dNotV, dChain, aNil, aCons, dTup, dLst, dCut, oNone, oSome, dRev, dNeg, dTru, dCa, dIs, dIsA, dCall, dCallK, sNil, sSeq, sNever, sBrk, sCont, sIf, sRet, sRetO, sRetE, sSet, sSetO, sDrop, sPar, sPar3, kn, enOf, owD, sAsg, gNm, gsNil, gsCons, gTp, sApp, sIns, sExt, sClr, sRev, sPut, sFrz, owAt, fin, st, iRng, iRngB, iSeq, lstD, tupD, sFor, dLc, dDc, wipeE, tYesD, dIndex, dSort, dDictZip, dMeth, dFld, dMk, List.map_cons, List.map_nil, List.length_cons, List.length_nil, List.replicate_succ, List.replicate_zero, List.cons_append, List.nil_append, List.append_nil, List.getElem?_cons_zero, List.getElem?_cons_succ, List.set_cons_zero, List.set_cons_succ, Option.bind_some, Option.map_some, Nat.reduceSub, Nat.reduceAdd, kwP, List.getD_cons_zero, List.getD_cons_succ, deskD, no_m hn]
  refine .inl ⟨trivial, trivial, us, rfl, hl, nd, ?_⟩
  refine comp_map pairD (fun p => pairD (ori zs p)) (prs (ovl us) (nms us)) [] (fun p hm Q Z hQ => ?_) ?_ ?_
  · have m := prs_mem _ _ p hm
    have i1 := bIx_plc (hp.mem_iff.mpr m.1)
    have i2 := bIx_plc (hp.mem_iff.mpr m.2)
    simp only [pairD, dC, dV, dB, dO2, ob_some, dT, dAndT, dOrT, dNotT, dIf, dAndV, dOrV, dNotV, dChain, aNil, aCons, dTup, dLst, dCut, oNone, oSome, dRev, dNeg, dTru, dCa, dIs, dIsA, dCall, dCallK, sNil, sSeq, sNever, sBrk, sCont, sIf, sRet, sRetO, sRetE, sSet, sSetO, sDrop, sPar, sPar3, kn, enOf, owD, sAsg, gNm, gsNil, gsCons, gTp, sApp, sIns, sExt, sClr, sRev, sPut, sFrz, owAt, fin, st, iRng, iRngB, iSeq, lstD, tupD, sFor, dLc, dDc, wipeE, tYesD, dIndex, dSort, dDictZip, dMeth, dFld, dMk, List.map_cons, List.map_nil, List.length_cons, List.length_nil, List.replicate_succ, List.replicate_zero, List.cons_append, List.nil_append, List.append_nil, List.getElem?_cons_zero, List.getElem?_cons_succ, List.set_cons_zero, List.set_cons_succ, Option.bind_some, Option.map_some, Nat.reduceSub, Nat.reduceAdd, kwP, List.getD_cons_zero, List.getD_cons_succ, i1, i2, bLt_i, if_true]
    refine ⟨trivial, trivial, ?_⟩
    have ed : decide (((ixS zs p.1 : Nat) : Int) < ((ixS zs p.2 : Nat) : Int)) = decide (ixS zs p.1 < ixS zs p.2) := decide_eq_decide.mpr Int.ofNat_lt
    rw [ed]
    unfold ori at hQ
    by_cases c : ixS zs p.1 < ixS zs p.2
    · rw [if_pos c] at hQ
      rw [decide_eq_true c]
      exact ⟨by decide, hQ⟩
    · rw [if_neg c] at hQ
      rw [decide_eq_false c]
      exact ⟨by decide, hQ⟩
  · have h2 := prs_len (ovl us) (nms us)
    have h3 : (nms us).length * (nms us).length ≤ 24 * 24 := Nat.mul_le_mul nl nl
    simp only [List.length_nil]
    omega
  · refine ⟨(prs (ovl us) (nms us)).map (ori zs), ?_, q⟩
    rw [List.map_map]
    rfl
theorem sh_pairs {n : Nat} {ps : List SP} (h : ∀ p ∈ ps, NameOk p.1 ∧ NameOk p.2) : sh (n + 2) (.lst (ps.map pairD)) = true := by
  show (ps.map pairD).all (sh (n + 1)) = true
  rw [List.all_eq_true]
  intro d hd
  obtain ⟨p, hp, rfl⟩ := List.mem_map.mp hd
  obtain ⟨h1, h2⟩ := h p hp
  show (sh n (.str p.1) && (sh n (.str p.2) && true)) = true
  have e1 : sh n (.str p.1) = true := by cases n <;> exact name_ok h1
  have e2 : sh n (.str p.2) = true := by cases n <;> exact name_ok h2
  rw [e1, e2]
  rfl
theorem wsh_names {us : List Win} (W : WOk us) (zs : List Str) : ∀ p ∈ wsh us zs, NameOk p.1 ∧ NameOk p.2 := fun p hp => by
  have m := wsh_mem hp
  obtain ⟨w1, h1, e1⟩ := List.mem_map.mp m.1
  obtain ⟨w2, h2, e2⟩ := List.mem_map.mp m.2
  rw [← e1, ← e2]
  exact ⟨W.nm _ h1, W.nm _ h2⟩
theorem pairD_inj : ∀ {a b : List SP}, a.map pairD = b.map pairD → a = b
  | [], [], _ => rfl
  | [], _ :: _, h => by cases h
  | _ :: _, [], h => by cases h
  | p :: a, r :: b, h => by
    obtain ⟨h1, h2⟩ := List.cons.inj h
    unfold pairD at h1
    injection h1 with h1
    injection h1 with h3 h4
    injection h3 with h3
    injection h4 with h4
    injection h4 with h4
    rw [pairD_inj h2, Prod.ext h3 h4]
def sp_alike (C : Addr) : DSp := fun ds P => ∃ us d1 z1 d2 z2, ds = [deskD C us, d1, d2] ∧ IsSeq d1 z1 ∧ IsSeq d2 z2 ∧ us.length ≤ 24 ∧ WOk us ∧ z1.Perm (nms us) ∧ z2.Perm (nms us) ∧ P (.bl (decide (wsh us z1 = wsh us z2)))
def d_alike (C_Desk : Addr) : TDS := (sRet (dO2 (bEqN false) (dCall (sp_wish_of C_Desk) (aCons (dV 0) (aCons (dV 1) aNil))) (dCall (sp_wish_of C_Desk) (aCons (dV 0) (aCons (dV 2) aNil)))))
theorem pairs_eq {a b : List SP} {P : D → Prop} (ha : ∀ p ∈ a, NameOk p.1 ∧ NameOk p.2) (hb : ∀ p ∈ b, NameOk p.1 ∧ NameOk p.2) (q : P (.bl (decide (a = b)))) : ob (bEqN false (.lst (a.map pairD)) (.lst (b.map pairD))) P := by
  refine beq_ob (n := 2) (by decide) (sh_pairs ha) (sh_pairs hb) (fun h => ?_) (fun h => ?_)
  · have e : a = b := pairD_inj (by injection h)
    rw [decide_eq_true e] at q
    exact q
  · have e : a ≠ b := fun e => h (by rw [e])
    rw [decide_eq_false e] at q
    exact q
theorem rd_alike {C : Addr} {ds : List D} {P : D → Prop} (h : sp_alike C ds P) : d_alike C (fin false P) (st 3 ds) := by
  obtain ⟨us, d1, z1, d2, z2, rfl, h1, h2, hl, W, p1, p2, q⟩ := h
  simp only [d_alike, dC, dV, dB, dO2, ob_some, dT, dAndT, dOrT, dNotT, dIf, dAndV, dOrV, dNotV, dChain, aNil, aCons, dTup, dLst, dCut, oNone, oSome, dRev, dNeg, dTru, dCa, dIs, dIsA, dCall, dCallK, sNil, sSeq, sNever, sBrk, sCont, sIf, sRet, sRetO, sRetE, sSet, sSetO, sDrop, sPar, sPar3, kn, enOf, owD, sAsg, gNm, gsNil, gsCons, gTp, sApp, sIns, sExt, sClr, sRev, sPut, sFrz, owAt, fin, st, iRng, iRngB, iSeq, lstD, tupD, sFor, dLc, dDc, wipeE, tYesD, dIndex, dSort, dDictZip, dMeth, dFld, dMk, List.map_cons, List.map_nil, List.length_cons, List.length_nil, List.replicate_succ, List.replicate_zero, List.cons_append, List.nil_append, List.append_nil, List.getElem?_cons_zero, List.getElem?_cons_succ, List.set_cons_zero, List.set_cons_succ, Option.bind_some, Option.map_some, Nat.reduceSub, Nat.reduceAdd, kwP, List.getD_cons_zero, List.getD_cons_succ]
  refine ⟨us, d1, z1, rfl, h1, hl, W.nd, p1, us, d2, z2, rfl, h2, hl, W.nd, p2, ?_⟩
  exact pairs_eq (wsh_names W z1) (wsh_names W z2) q
theorem ln_common {ds : List D} {P : D → Prop} (h : sp_common ds P) : ds.length = 2 := by obtain ⟨_, _, rfl, _⟩ := h; rfl
theorem ln_Desk_overlap {C : Addr} {ds : List D} {P : D → Prop} (h : sp_Desk_overlap C ds P) : ds.length = 3 := by obtain ⟨_, _, _, _, _, rfl, _⟩ := h; rfl
theorem ln_Desk_pairs {C : Addr} {ds : List D} {P : D → Prop} (h : sp_Desk_pairs C ds P) : ds.length = 1 := by obtain ⟨_, rfl, _⟩ := h; rfl
theorem ln_places {ds : List D} {P : D → Prop} (h : sp_places ds P) : ds.length = 1 := by obtain ⟨_, _, rfl, _⟩ := h; rfl
theorem ln_wish_of {C : Addr} {ds : List D} {P : D → Prop} (h : sp_wish_of C ds P) : ds.length = 2 := by obtain ⟨_, _, _, rfl, _⟩ := h; rfl
theorem ln_alike {C : Addr} {ds : List D} {P : D → Prop} (h : sp_alike C ds P) : ds.length = 3 := by obtain ⟨_, _, _, _, _, rfl, _⟩ := h; rfl
end DL
namespace DL
open PySem PySem.Spec PyProof.Rows L2 RK
def insI (k : Int) : List Int → List Int
  | [] => [k]
  | x :: xs => if k < x then k :: x :: xs else if k = x then x :: xs else x :: insI k xs
theorem insI_mem (k j : Int) : ∀ l : List Int, j ∈ insI k l ↔ j = k ∨ j ∈ l
  | [] => by simp [insI]
  | x :: xs => by
    unfold insI
    split
    · simp
    · split
      · rename_i h1 h2
        subst h2
        simp
      · rw [List.mem_cons, insI_mem k j xs, List.mem_cons]
        constructor
        · rintro (h | h | h)
          · exact .inr (.inl h)
          · exact .inl h
          · exact .inr (.inr h)
        · rintro (h | h | h)
          · exact .inr (.inl h)
          · exact .inl h
          · exact .inr (.inr h)
theorem insI_asc (k : Int) : ∀ {l : List Int}, l.Pairwise (· < ·) → (insI k l).Pairwise (· < ·)
  | [], _ => by simp [insI]
  | x :: xs, h => by
    have h' := List.pairwise_cons.mp h
    unfold insI
    split
    · rename_i h1
      refine List.pairwise_cons.mpr ⟨fun y hy => ?_, h⟩
      rcases List.mem_cons.mp hy with rfl | hy
      · exact h1
      · exact Int.lt_trans h1 (h'.1 y hy)
    · split
      · exact h
      · refine List.pairwise_cons.mpr ⟨fun y hy => ?_, insI_asc k h'.2⟩
        rcases (insI_mem k y xs).mp hy with rfl | hy
        · omega
        · exact h'.1 y hy
def asc (l : List Int) : List Int := l.foldr insI []
theorem asc_mem (l : List Int) (j : Int) : j ∈ asc l ↔ j ∈ l := by
  unfold asc
  induction l with
  | nil => simp
  | cons k l ih => rw [List.foldr_cons, insI_mem, ih, List.mem_cons]
theorem asc_asc (l : List Int) : (asc l).Pairwise (· < ·) := by
  unfold asc
  induction l with
  | nil => exact .nil
  | cons k l ih => exact insI_asc k ih
theorem asc_one : ∀ {a b : List Int}, a.Pairwise (· < ·) → b.Pairwise (· < ·) → (∀ k, k ∈ a ↔ k ∈ b) → a = b
  | [], [], _, _, _ => rfl
  | [], y :: ys, _, _, h => by have := (h y).mpr List.mem_cons_self; cases this
  | x :: xs, [], _, _, h => by have := (h x).mp List.mem_cons_self; cases this
  | x :: xs, y :: ys, ha, hb, h => by
    have a' := List.pairwise_cons.mp ha
    have b' := List.pairwise_cons.mp hb
    have e : x = y := by
      rcases List.mem_cons.mp ((h x).mp List.mem_cons_self) with e | e
      · exact e
      · rcases List.mem_cons.mp ((h y).mpr List.mem_cons_self) with e' | e'
        · exact e'.symm
        · have := b'.1 x e
          have := a'.1 y e'
          omega
    subst e
    rw [asc_one a'.2 b'.2 fun k => ?_]
    constructor
    · intro hk
      rcases List.mem_cons.mp ((h k).mp (List.mem_cons_of_mem _ hk)) with rfl | z
      · exact absurd (a'.1 k hk) (by omega)
      · exact z
    · intro hk
      rcases List.mem_cons.mp ((h k).mpr (List.mem_cons_of_mem _ hk)) with rfl | z
      · exact absurd (b'.1 k hk) (by omega)
      · exact z
theorem asc_congr {a b : List Int} (h : ∀ k, k ∈ a ↔ k ∈ b) : asc a = asc b := asc_one (asc_asc a) (asc_asc b) fun k => by rw [asc_mem, asc_mem, h]
theorem asc_len (l : List Int) : (asc l).length ≤ l.length := by
  unfold asc
  induction l with
  | nil => exact Nat.le_refl _
  | cons k l ih =>
    rw [List.foldr_cons, List.length_cons]
    refine Nat.le_trans ?_ (Nat.succ_le_succ ih)
    generalize l.foldr insI [] = m
    clear ih
    induction m with
    | nil => exact Nat.le_refl _
    | cons x xs ih =>
      unfold insI
      split
      · simp
      · split
        · simp
        · simpa using ih
theorem sOut_two {α : Type} {g g1 : TDG} {tt tt1 : TDT} {it1 : TDI} {te : TDE} {vs1 : List Nat} {env : De} {P : List Int → Prop} (enc : α → D) (f1 f2 : α → Int) :
    ∀ (l : List α) (acc : List Int), (∀ a ∈ l, ∀ (ac : List Int) (K : List Int → Prop), ac.length + 2 < scanBound → K (ac ++ [f1 a, f2 a]) → g (enc a) env fun env' => tt env' fun b => if b = true then it1 env' fun ys => sIn g1 tt1 te K (wipeE env' vs1) ys ac else K ac) →
      acc.length + 2 * l.length + 2 < scanBound → P (acc ++ l.flatMap fun a => [f1 a, f2 a]) → sOut g tt it1 g1 tt1 te vs1 P env (l.map enc) acc
  | [], acc, _, _, q => by
    rw [List.flatMap_nil, List.append_nil] at q
    exact q
  | a :: l, acc, h, hl, q => by
    rw [List.length_cons] at hl
    refine h a List.mem_cons_self acc _ (by omega) (sOut_two enc f1 f2 l _ (fun x hx => h x (List.mem_cons_of_mem _ hx)) (by simp; omega) ?_)
    rw [List.append_assoc]
    simpa using q
structure Run where
  l : Int
  r : Int
  n : Str
def runD (u : Run) : D := .tup [.int u.l, .int u.r, .str u.n]
def prI : List Int → List (Int × Int)
  | [] => []
  | [_] => []
  | a :: b :: r => (a, b) :: prI (b :: r)
def pI (c : Int × Int) : D := .tup [.int c.1, .int c.2]
theorem zip_prI : ∀ l : List Int, zipD (l.map D.int) ((l.drop 1).map D.int) = (prI l).map pI
  | [] => rfl
  | [_] => rfl
  | a :: b :: r => by
    have := zip_prI (b :: r)
    simp only [List.map_cons, List.drop_succ_cons, List.drop_zero, zipD, prI] at this ⊢
    rw [this]
    rfl
theorem prI_len : ∀ l : List Int, (prI l).length = l.length - 1
  | [] => rfl
  | [_] => rfl
  | a :: b :: r => by
    rw [prI, List.length_cons, prI_len (b :: r)]
    simp
theorem zip_ints {da dbb : TDE} {env : De} {Q : List D → Prop} {l : List Int} (e1 : ∀ P : D → Prop, da env P = P (.lst (l.map D.int))) (e2 : ∀ P : D → Prop, dbb env P = ob (cutA (.lst (l.map D.int)) (some 1) none) P) (q : Q ((prI l).map pI)) : iZp da dbb env Q := by
  refine .inl ?_
  have c : cutA (.lst (l.map D.int)) (some 1) none = some (.lst ((l.drop 1).map D.int)) := by
    show some (D.lst (cutD _ _ _)) = _
    have e0 : cutD (l.map D.int) (some 1) none = (l.map D.int).drop 1 := by
      unfold cutD
      rw [show (some 1 : Option Int) = some ((1 : Nat) : Int) from rfl, HT.sIx_nat, HT.sIx_none]
      cases l with
      | nil => simp
      | cons a r =>
        show ((a :: r).map D.int |>.drop (min 1 _)).take _ = _
        rw [List.length_map, List.length_cons, Nat.min_eq_left (by omega)]
        exact List.take_of_length_le (by simp)
    rw [e0, List.map_drop]
  rw [twoD, e1, e2, c]
  show Q (zipD _ _)
  rw [zip_prI]
  exact q
def stepR (tp : Int → Option Str) (rs : List Run) (c : Int × Int) : List Run := match tp c.1 with
  | none => rs
  | some n => match rs.getLast? with
    | none => rs ++ [⟨c.1, c.2, n⟩]
    | some u => if u.r = c.1 ∧ u.n = n then rs.dropLast ++ [⟨u.l, c.2, n⟩] else rs ++ [⟨c.1, c.2, n⟩]
def runsT (tp : Int → Option Str) (cols : List Int) : List Run := (prI cols).foldl (stepR tp) []
theorem stepR_len (tp : Int → Option Str) (rs : List Run) (c : Int × Int) : (stepR tp rs c).length ≤ rs.length + 1 := by
  unfold stepR
  split
  · omega
  · split
    · simp
    · split
      · simp; try omega
      · simp
theorem fold_len (tp : Int → Option Str) : ∀ (l : List (Int × Int)) (rs : List Run), (l.foldl (stepR tp) rs).length ≤ rs.length + l.length
  | [], rs => Nat.le_refl _
  | c :: l, rs => by
    rw [List.foldl_cons, List.length_cons]
    have := fold_len tp l (stepR tp rs c)
    have := stepR_len tp rs c
    omega
theorem runs_len (tp : Int → Option Str) (cols : List Int) : (runsT tp cols).length ≤ cols.length := by
  have := fold_len tp (prI cols) []
  unfold runsT
  rw [prI_len] at this
  simp at this
  omega
theorem fold_n {tp : Int → Option Str} {ns : List Str} (h : ∀ x n, tp x = some n → n ∈ ns) : ∀ (l : List (Int × Int)) (rs : List Run), (∀ u ∈ rs, u.n ∈ ns) → ∀ u ∈ l.foldl (stepR tp) rs, u.n ∈ ns
  | [], rs, h0 => h0
  | c :: l, rs, h0 => fold_n h l (stepR tp rs c) fun u hu => by
    unfold stepR at hu
    cases e : tp c.1 with
    | none => rw [e] at hu; exact h0 u hu
    | some n =>
      have hn := h _ _ e
      rw [e] at hu
      have two : ∀ {xs : List Run} {v : Run}, (∀ w ∈ xs, w ∈ rs) → v.n = n → u ∈ xs ++ [v] → u.n ∈ ns := fun {xs v} k ev hu => by
        rcases List.mem_append.mp hu with z | z
        · exact h0 u (k u z)
        · rw [List.mem_singleton.mp z, ev]; exact hn
      cases g : rs.getLast? with
      | none => rw [g] at hu; exact two (fun _ z => z) rfl hu
      | some w =>
        rw [g] at hu
        by_cases q : w.r = c.1 ∧ w.n = n
        · simp only [if_pos q] at hu
          exact two (fun x hx => (List.dropLast_sublist rs).subset hx) rfl hu
        · simp only [if_neg q] at hu
          exact two (fun _ z => z) rfl hu
def topF (us : List Win) (zs : List Str) (x y : Int) : Option Str := (zs.filter (cov us x y)).getLast?
theorem topF_D (us : List Win) (zs : List Str) (x y : Int) : topD (zs.filter (cov us x y)) = match topF us zs x y with | some z => .str z | none => .non := rfl
theorem topF_mem {us : List Win} {zs : List Str} {x y : Int} {n : Str} (h : topF us zs x y = some n) : n ∈ zs := (List.mem_filter.mp (List.mem_of_getLast? h)).1
theorem last_run {rs : List Run} {u : Run} : bIx (.lst ((rs ++ [u]).map runD)) (.int (-1)) = some (runD u) := by
  show (atI ((rs ++ [u]).map runD) (-1)).or _ = _
  rw [List.map_append, List.map_cons, List.map_nil, atI_last]
  rfl
theorem sh_two {a : Int} {n : Str} (h : NameOk n) : sh 1 (.tup [.int a, .str n]) = true := by
  show (true && (PyData.strOk n && true)) = true
  rw [name_ok h]
  rfl
def sp_band_runs (C : Addr) : DSp := fun ds P => ∃ us d zs cols y, ds = [deskD C us, d, .lst (cols.map D.int), .int y] ∧ IsSeq d zs ∧ zs.length ≤ 1000 ∧ (nms us).Nodup ∧ (∀ z ∈ zs, z ∈ nms us ∧ NameOk z) ∧ cols.length ≤ 1000 ∧ P (.lst ((runsT (fun x => topF us zs x y) cols).map runD))
def d_band_runs (C_Desk : Addr) : TDS := (sSeq (sSetO 4 (dLst aNil))
  (sSeq (sFor (iZp (dV 2) (dCut cutA (dV 2) (oSome (dC (.int 1))) oNone)) (gTp 2 (gsCons (gNm 5) (gsCons (gNm 6) gsNil))) (sSeq (sSet 7 (dCall (sp_top_window C_Desk) (aCons (dV 0) (aCons (dV 1) (aCons (dV 5) (aCons (dV 3) aNil))))))
  (sSeq (sIf (dT (dO2 (bIsN false) (dV 7) (dC .non))) sCont sNil)
  (sIf (dAndT (dTru (dB 4)) (dT (dO2 (bEqN false) (dCut cutA (dO2 bIx (dB 4) (dNeg (dC (.int 1)))) (oSome (dC (.int 1))) oNone) (dTup (aCons (dV 5) (aCons (dV 7) aNil)))))) (sPut 4 (dTup (aCons (dO2 bIx (dO2 bIx (dB 4) (dNeg (dC (.int 1)))) (dC (.int 0))) (aCons (dV 6) (aCons (dV 7) aNil)))) (dNeg (dC (.int 1)))) (sApp 4 (dTup (aCons (dV 5) (aCons (dV 6) (aCons (dV 7) aNil)))))))))
  (sRetO 4)))
theorem ln_band_runs {C : Addr} {ds : List D} {P : D → Prop} (h : sp_band_runs C ds P) : ds.length = 4 := by obtain ⟨_, _, _, _, _, rfl, _⟩ := h; rfl
theorem rd_band_runs {C : Addr} {ds : List D} {P : D → Prop} (h : sp_band_runs C ds P) : d_band_runs C (fin true P) (st 8 ds) := by
  obtain ⟨us, d, zs, cols, y, rfl, hd, hl, nd, hz, hc, q⟩ := h
  simp only [d_band_runs, dC, dV, dB, dO2, ob_some, dT, dAndT, dOrT, dNotT, dIf, dAndV, dOrV, dNotV, dChain, aNil, aCons, dTup, dLst, dCut, oNone, oSome, dRev, dNeg, dTru, dCa, dIs, dIsA, dCall, dCallK, sNil, sSeq, sNever, sBrk, sCont, sIf, sRet, sRetO, sRetE, sSet, sSetO, sDrop, sPar, sPar3, kn, enOf, owD, sAsg, gNm, gsNil, gsCons, gTp, sApp, sIns, sExt, sClr, sRev, sPut, sFrz, owAt, fin, st, iRng, iRngB, iSeq, lstD, tupD, sFor, dLc, dDc, wipeE, tYesD, dIndex, dSort, dDictZip, dMeth, dFld, dMk, List.map_cons, List.map_nil, List.length_cons, List.length_nil, List.replicate_succ, List.replicate_zero, List.cons_append, List.nil_append, List.append_nil, List.getElem?_cons_zero, List.getElem?_cons_succ, List.set_cons_zero, List.set_cons_succ, Option.bind_some, Option.map_some, Nat.reduceSub, Nat.reduceAdd, kwP, List.getD_cons_zero, List.getD_cons_succ]
  refine ⟨by decide, ?_⟩
  refine zip_ints (l := cols) (fun _ => by simp only [dC, dV, dB, dO2, ob_some, dT, dAndT, dOrT, dNotT, dIf, dAndV, dOrV, dNotV, dChain, aNil, aCons, dTup, dLst, dCut, oNone, oSome, dRev, dNeg, dTru, dCa, dIs, dIsA, dCall, dCallK, sNil, sSeq, sNever, sBrk, sCont, sIf, sRet, sRetO, sRetE, sSet, sSetO, sDrop, sPar, sPar3, kn, enOf, owD, sAsg, gNm, gsNil, gsCons, gTp, sApp, sIns, sExt, sClr, sRev, sPut, sFrz, owAt, fin, st, iRng, iRngB, iSeq, lstD, tupD, sFor, dLc, dDc, wipeE, tYesD, dIndex, dSort, dDictZip, dMeth, dFld, dMk, List.map_cons, List.map_nil, List.length_cons, List.length_nil, List.replicate_succ, List.replicate_zero, List.cons_append, List.nil_append, List.append_nil, List.getElem?_cons_zero, List.getElem?_cons_succ, List.set_cons_zero, List.set_cons_succ, Option.bind_some, Option.map_some, Nat.reduceSub, Nat.reduceAdd, kwP, List.getD_cons_zero, List.getD_cons_succ]) (fun _ => by simp only [dC, dV, dB, dO2, ob_some, dT, dAndT, dOrT, dNotT, dIf, dAndV, dOrV, dNotV, dChain, aNil, aCons, dTup, dLst, dCut, oNone, oSome, dRev, dNeg, dTru, dCa, dIs, dIsA, dCall, dCallK, sNil, sSeq, sNever, sBrk, sCont, sIf, sRet, sRetO, sRetE, sSet, sSetO, sDrop, sPar, sPar3, kn, enOf, owD, sAsg, gNm, gsNil, gsCons, gTp, sApp, sIns, sExt, sClr, sRev, sPut, sFrz, owAt, fin, st, iRng, iRngB, iSeq, lstD, tupD, sFor, dLc, dDc, wipeE, tYesD, dIndex, dSort, dDictZip, dMeth, dFld, dMk, List.map_cons, List.map_nil, List.length_cons, List.length_nil, List.replicate_succ, List.replicate_zero, List.cons_append, List.nil_append, List.append_nil, List.getElem?_cons_zero, List.getElem?_cons_succ, List.set_cons_zero, List.set_cons_succ, Option.bind_some, Option.map_some, Nat.reduceSub, Nat.reduceAdd, kwP, List.getD_cons_zero, List.getD_cons_succ]) ?_
  refine loop_all pI (prI cols) (fun pre env => ∃ e5 e6 e7, env = [.fz (deskD C us), .fz d, .fz (.lst (cols.map D.int)), .fz (.int y), .ow ((pre.foldl (stepR fun x => topF us zs x y) []).map runD), e5, e6, e7]) ⟨_, _, _, rfl⟩ (fun pre c post env e h k hk => ?_) (fun env h => ?_)
  · obtain ⟨e5, e6, e7, rfl⟩ := h
    have hp : pre.length < 1000 := by
      have := congrArg List.length e
      rw [prI_len] at this
      simp at this
      omega
    have rl := fold_len (fun x => topF us zs x y) pre []
    rw [List.foldl_append, List.foldl_cons, List.foldl_nil] at hk
    generalize hrs : pre.foldl (stepR fun x => topF us zs x y) [] = rs at hk rl
    have rl' : rs.length ≤ 1000 := by simp at rl; omega
    have hnn : ∀ u ∈ rs, NameOk u.n := fun u hu => (hz u.n (fold_n (tp := fun x => topF us zs x y) (fun _ _ h => topF_mem h) pre [] (fun _ z => nomatch z) u (by rw [hrs]; exact hu))).2
    obtain ⟨c1, c2⟩ := c
    simp only [pI, dC, dV, dB, dO2, ob_some, dT, dAndT, dOrT, dNotT, dIf, dAndV, dOrV, dNotV, dChain, aNil, aCons, dTup, dLst, dCut, oNone, oSome, dRev, dNeg, dTru, dCa, dIs, dIsA, dCall, dCallK, sNil, sSeq, sNever, sBrk, sCont, sIf, sRet, sRetO, sRetE, sSet, sSetO, sDrop, sPar, sPar3, kn, enOf, owD, sAsg, gNm, gsNil, gsCons, gTp, sApp, sIns, sExt, sClr, sRev, sPut, sFrz, owAt, fin, st, iRng, iRngB, iSeq, lstD, tupD, sFor, dLc, dDc, wipeE, tYesD, dIndex, dSort, dDictZip, dMeth, dFld, dMk, List.map_cons, List.map_nil, List.length_cons, List.length_nil, List.replicate_succ, List.replicate_zero, List.cons_append, List.nil_append, List.append_nil, List.getElem?_cons_zero, List.getElem?_cons_succ, List.set_cons_zero, List.set_cons_succ, Option.bind_some, Option.map_some, Nat.reduceSub, Nat.reduceAdd, kwP, List.getD_cons_zero, List.getD_cons_succ]
    refine ⟨trivial, trivial, us, d, zs, c1, y, rfl, hd, hl, nd, fun z h => (hz z h).1, ?_⟩
    rw [topF_D]
    have es : stepR (fun x => topF us zs x y) rs (c1, c2) = match topF us zs c1 y with
      | none => rs
      | some n => match rs.getLast? with
        | none => rs ++ [⟨c1, c2, n⟩]
        | some u => if u.r = c1 ∧ u.n = n then rs.dropLast ++ [⟨u.l, c2, n⟩] else rs ++ [⟨c1, c2, n⟩] := rfl
    rw [es] at hk
    cases et : topF us zs c1 y with
    | none =>
      rw [et] at hk
      exact hk _ ⟨_, _, _, rfl⟩
    | some n =>
      rw [et] at hk
      have nn : NameOk n := (hz n (topF_mem et)).2
      have isn : (bIsN false (.str n) .non) = some (.bl false) := rfl
      simp only [isn, ob_some, Bool.false_eq_true, if_false, dC, dV, dB, dO2, ob_some, dT, dAndT, dOrT, dNotT, dIf, dAndV, dOrV, dNotV, dChain, aNil, aCons, dTup, dLst, dCut, oNone, oSome, dRev, dNeg, dTru, dCa, dIs, dIsA, dCall, dCallK, sNil, sSeq, sNever, sBrk, sCont, sIf, sRet, sRetO, sRetE, sSet, sSetO, sDrop, sPar, sPar3, kn, enOf, owD, sAsg, gNm, gsNil, gsCons, gTp, sApp, sIns, sExt, sClr, sRev, sPut, sFrz, owAt, fin, st, iRng, iRngB, iSeq, lstD, tupD, sFor, dLc, dDc, wipeE, tYesD, dIndex, dSort, dDictZip, dMeth, dFld, dMk, List.map_cons, List.map_nil, List.length_cons, List.length_nil, List.replicate_succ, List.replicate_zero, List.cons_append, List.nil_append, List.append_nil, List.getElem?_cons_zero, List.getElem?_cons_succ, List.set_cons_zero, List.set_cons_succ, Option.bind_some, Option.map_some, Nat.reduceSub, Nat.reduceAdd, kwP, List.getD_cons_zero, List.getD_cons_succ]
      rcases List.eq_nil_or_concat rs with h0 | ⟨ru, u, h0⟩
      · subst h0
        simp only [List.map_nil, truD, List.isEmpty_nil, Bool.not_true, ob_some, Bool.false_eq_true, if_false, dC, dV, dB, dO2, ob_some, dT, dAndT, dOrT, dNotT, dIf, dAndV, dOrV, dNotV, dChain, aNil, aCons, dTup, dLst, dCut, oNone, oSome, dRev, dNeg, dTru, dCa, dIs, dIsA, dCall, dCallK, sNil, sSeq, sNever, sBrk, sCont, sIf, sRet, sRetO, sRetE, sSet, sSetO, sDrop, sPar, sPar3, kn, enOf, owD, sAsg, gNm, gsNil, gsCons, gTp, sApp, sIns, sExt, sClr, sRev, sPut, sFrz, owAt, fin, st, iRng, iRngB, iSeq, lstD, tupD, sFor, dLc, dDc, wipeE, tYesD, dIndex, dSort, dDictZip, dMeth, dFld, dMk, List.map_cons, List.map_nil, List.length_cons, List.length_nil, List.replicate_succ, List.replicate_zero, List.cons_append, List.nil_append, List.append_nil, List.getElem?_cons_zero, List.getElem?_cons_succ, List.set_cons_zero, List.set_cons_succ, Option.bind_some, Option.map_some, Nat.reduceSub, Nat.reduceAdd, kwP, List.getD_cons_zero, List.getD_cons_succ]
        exact ⟨by decide, by decide, hk _ ⟨_, _, _, rfl⟩⟩
      · rw [List.concat_eq_append] at h0
        subst h0
        have hu := hnn u (by simp)
        have tr : truD (.lst ((ru ++ [u]).map runD)) = some true := by
          show some (!((ru ++ [u]).map runD).isEmpty) = _
          simp
        have gl : (ru ++ [u]).getLast? = some u := by rw [List.getLast?_append]; rfl
        have dl : (ru ++ [u]).dropLast = ru := by simp
        have il : ixN ((ru ++ [u]).map runD).length (-1) = some ru.length := by
          unfold ixN
          simp only [List.length_map, List.length_append, List.length_cons, List.length_nil]
          rw [if_neg (by omega), if_pos (by omega)]
          congr 1
          omega
        have st1 : ((ru ++ [u]).map runD).set ru.length (.tup [.int u.l, .int c2, .str n]) = (ru ++ [(⟨u.l, c2, n⟩ : Run)]).map runD := by
          rw [List.map_append, List.map_append, List.set_append_right _ _ (by simp), List.length_map, Nat.sub_self]
          rfl
        have cu : cutA (runD u) (some 1) none = some (.tup [.int u.r, .str u.n]) := rfl
        have i0 : bIx (runD u) (.int 0) = some (.int u.l) := rfl
        simp only [tr, last_run, cu, ob_some, if_true]
        rw [gl, dl] at hk
        refine ⟨by decide, beq_ob (n := 1) (by decide) (sh_two hu) (sh_two nn) (fun e1 => ?_) (fun e1 => ?_)⟩
        · have e2 : u.r = c1 ∧ u.n = n := by
            injection e1 with e1
            injection e1 with a1 a2
            injection a1 with a1
            injection a2 with a2
            injection a2 with a2
            exact ⟨a1, a2⟩
          replace hk := hk [.fz (deskD C us), .fz d, .fz (.lst (cols.map D.int)), .fz (.int y), .ow ((ru ++ [(⟨u.l, c2, n⟩ : Run)]).map runD), .fz (.int c1), .fz (.int c2), .fz (.str n)]
          simp only [if_pos e2] at hk
          simp only [Bool.not_false, ob_some, if_true, i0, last_run, dC, dV, dB, dO2, ob_some, dT, dAndT, dOrT, dNotT, dIf, dAndV, dOrV, dNotV, dChain, aNil, aCons, dTup, dLst, dCut, oNone, oSome, dRev, dNeg, dTru, dCa, dIs, dIsA, dCall, dCallK, sNil, sSeq, sNever, sBrk, sCont, sIf, sRet, sRetO, sRetE, sSet, sSetO, sDrop, sPar, sPar3, kn, enOf, owD, sAsg, gNm, gsNil, gsCons, gTp, sApp, sIns, sExt, sClr, sRev, sPut, sFrz, owAt, fin, st, iRng, iRngB, iSeq, lstD, tupD, sFor, dLc, dDc, wipeE, tYesD, dIndex, dSort, dDictZip, dMeth, dFld, dMk, List.map_cons, List.map_nil, List.length_cons, List.length_nil, List.replicate_succ, List.replicate_zero, List.cons_append, List.nil_append, List.append_nil, List.getElem?_cons_zero, List.getElem?_cons_succ, List.set_cons_zero, List.set_cons_succ, Option.bind_some, Option.map_some, Nat.reduceSub, Nat.reduceAdd, kwP, List.getD_cons_zero, List.getD_cons_succ, il, st1]
          exact ⟨by decide, hk ⟨_, _, _, rfl⟩⟩
        · have e2 : ¬ (u.r = c1 ∧ u.n = n) := fun z => e1 (by rw [z.1, z.2])
          replace hk := hk [.fz (deskD C us), .fz d, .fz (.lst (cols.map D.int)), .fz (.int y), .ow (((ru ++ [u]) ++ [(⟨c1, c2, n⟩ : Run)]).map runD), .fz (.int c1), .fz (.int c2), .fz (.str n)]
          simp only [if_neg e2] at hk
          simp only [Bool.false_eq_true, if_false, dC, dV, dB, dO2, ob_some, dT, dAndT, dOrT, dNotT, dIf, dAndV, dOrV, dNotV, dChain, aNil, aCons, dTup, dLst, dCut, oNone, oSome, dRev, dNeg, dTru, dCa, dIs, dIsA, dCall, dCallK, sNil, sSeq, sNever, sBrk, sCont, sIf, sRet, sRetO, sRetE, sSet, sSetO, sDrop, sPar, sPar3, kn, enOf, owD, sAsg, gNm, gsNil, gsCons, gTp, sApp, sIns, sExt, sClr, sRev, sPut, sFrz, owAt, fin, st, iRng, iRngB, iSeq, lstD, tupD, sFor, dLc, dDc, wipeE, tYesD, dIndex, dSort, dDictZip, dMeth, dFld, dMk, List.map_cons, List.map_nil, List.length_cons, List.length_nil, List.replicate_succ, List.replicate_zero, List.cons_append, List.nil_append, List.append_nil, List.getElem?_cons_zero, List.getElem?_cons_succ, List.set_cons_zero, List.set_cons_succ, Option.bind_some, Option.map_some, Nat.reduceSub, Nat.reduceAdd, kwP, List.getD_cons_zero, List.getD_cons_succ]
          refine ⟨by decide, by rw [List.length_map]; unfold sizeLine; omega, ?_⟩
          have e3 : (ru ++ [u]).map runD ++ [.tup [.int c1, .int c2, .str n]] = ((ru ++ [u]) ++ [(⟨c1, c2, n⟩ : Run)]).map runD := by rw [List.map_append (l₁ := ru ++ [u])]; rfl
          rw [e3]
          exact hk ⟨_, _, _, rfl⟩
  · obtain ⟨e5, e6, e7, rfl⟩ := h
    simp only [dC, dV, dB, dO2, ob_some, dT, dAndT, dOrT, dNotT, dIf, dAndV, dOrV, dNotV, dChain, aNil, aCons, dTup, dLst, dCut, oNone, oSome, dRev, dNeg, dTru, dCa, dIs, dIsA, dCall, dCallK, sNil, sSeq, sNever, sBrk, sCont, sIf, sRet, sRetO, sRetE, sSet, sSetO, sDrop, sPar, sPar3, kn, enOf, owD, sAsg, gNm, gsNil, gsCons, gTp, sApp, sIns, sExt, sClr, sRev, sPut, sFrz, owAt, fin, st, iRng, iRngB, iSeq, lstD, tupD, sFor, dLc, dDc, wipeE, tYesD, dIndex, dSort, dDictZip, dMeth, dFld, dMk, List.map_cons, List.map_nil, List.length_cons, List.length_nil, List.replicate_succ, List.replicate_zero, List.cons_append, List.nil_append, List.append_nil, List.getElem?_cons_zero, List.getElem?_cons_succ, List.set_cons_zero, List.set_cons_succ, Option.bind_some, Option.map_some, Nat.reduceSub, Nat.reduceAdd, kwP, List.getD_cons_zero, List.getD_cons_succ]
    exact q
structure Tile where
  l : Int
  t : Int
  r : Int
  b : Int
  n : Str
def tileD (u : Tile) : D := .tup [.tup [.int u.l, .int u.t, .int u.r, .int u.b], .str u.n]
def bandT (c : Int × Int) (u : Run) : Tile := ⟨u.l, c.1, u.r, c.2, u.n⟩
def tls (tp : Int → Int → Option Str) (cols rows : List Int) : List Tile := (prI rows).flatMap fun c => (runsT (fun x => tp x c.1) cols).map (bandT c)
def rctO (us : List Win) (z : Str) : R := (look us z).getD ⟨0, 0, 0, 0⟩
def colsOf (us : List Win) (zs : List Str) : List Int := asc (zs.flatMap fun z => [(rctO us z).l, (rctO us z).r])
def rowsOf (us : List Win) (zs : List Str) : List Int := asc (zs.flatMap fun z => [(rctO us z).t, (rctO us z).b])
theorem flat2_len {α : Type} (f g : α → Int) : ∀ zs : List α, (zs.flatMap fun z => [f z, g z]).length = 2 * zs.length
  | [] => rfl
  | z :: zs => by
    rw [List.flatMap_cons, List.length_append, flat2_len f g zs]
    simp
    omega
theorem flat_bd {α β : Type} {f : α → List β} {m : Nat} : ∀ {l : List α}, (∀ x, (f x).length ≤ m) → (l.flatMap f).length ≤ l.length * m
  | [], _ => by simp
  | x :: l, h => by
    rw [List.flatMap_cons, List.length_append, List.length_cons, Nat.add_mul, Nat.one_mul]
    have := flat_bd (l := l) h
    have := h x
    omega
def sp_tiles (C : Addr) : DSp := fun ds P => ∃ us d zs, ds = [deskD C us, d] ∧ IsSeq d zs ∧ us.length ≤ 24 ∧ WOk us ∧ zs.Perm (nms us) ∧ P (.lst ((tls (topF us zs) (colsOf us zs) (rowsOf us zs)).map tileD))
def d_tiles (C_Desk : Addr) : TDS := (sSeq (sDrop (dCall (sp_check_order C_Desk) (aCons (dV 0) (aCons (dV 1) aNil))))
  (sSeq (sSet 2 (dLc (iSeq (dV 1)) (gNm 9) tYesD (dMeth C_Desk "rectangle" (sp_Desk_rectangle C_Desk) (dV 0) (aCons (dV 9) aNil)) [9]))
  (sSeq (sSet 3 (dSS (iSeq (dV 2)) (gNm 10) tYesD (iSeq (dTup (aCons (dO2 bIx (dV 10) (dC (.int 0))) (aCons (dO2 bIx (dV 10) (dC (.int 2))) aNil)))) (gNm 11) tYesD (dV 11) [10, 11] [11]))
  (sSeq (sSet 4 (dSS (iSeq (dV 2)) (gNm 10) tYesD (iSeq (dTup (aCons (dO2 bIx (dV 10) (dC (.int 1))) (aCons (dO2 bIx (dV 10) (dC (.int 3))) aNil)))) (gNm 11) tYesD (dV 11) [10, 11] [11]))
  (sSeq (sSetO 5 (dLst aNil))
  (sSeq (sFor (iZp (dV 4) (dCut cutA (dV 4) (oSome (dC (.int 1))) oNone)) (gTp 2 (gsCons (gNm 6) (gsCons (gNm 7) gsNil))) (sSeq (sSet 8 (dCall (sp_band_runs C_Desk) (aCons (dV 0) (aCons (dV 1) (aCons (dV 3) (aCons (dV 6) aNil))))))
  (sExt 5 (dLc (iSeq (dV 8)) (gTp 3 (gsCons (gNm 12) (gsCons (gNm 13) (gsCons (gNm 9) gsNil)))) tYesD (dTup (aCons (dTup (aCons (dV 12) (aCons (dV 6) (aCons (dV 13) (aCons (dV 7) aNil))))) (aCons (dV 9) aNil))) [12, 13, 9]))))
  (sRetO 5)))))))
theorem ln_tiles {C : Addr} {ds : List D} {P : D → Prop} (h : sp_tiles C ds P) : ds.length = 2 := by obtain ⟨_, _, _, rfl, _⟩ := h; rfl
theorem rd_tiles {C : Addr} {ds : List D} {P : D → Prop} (h : sp_tiles C ds P) : d_tiles C (fin true P) (st 14 ds) := by
  obtain ⟨us, d, zs, rfl, hd, hl, W, hp, q⟩ := h
  have zl : zs.length = us.length := by have := hp.length_eq; unfold nms at this; rwa [List.length_map] at this
  have hn : (("rectangle" : Str) == ("windows" : Str)) = false := by decide +kernel
  have hz : ∀ z ∈ zs, z ∈ nms us ∧ NameOk z := fun z h => ⟨hp.mem_iff.mp h, by
    obtain ⟨w, hw, rfl⟩ := List.mem_map.mp (hp.mem_iff.mp h)
    exact W.nm w hw⟩
  simp only [d_tiles, dC, dV, dB, dO2, ob_some, dT, dAndT, dOrT, dNotT, dIf, dAndV, dOrV, dNotV, dChain, aNil, aCons, dTup, dLst, dCut, oNone, oSome, dRev, dNeg, dTru, dCa, dIs, dIsA, dCall, dCallK, sNil, sSeq, sNever, sBrk, sCont, sIf, sRet, sRetO, sRetE, sSet, sSetO, sDrop, sPar, sPar3, kn, enOf, owD, sAsg, gNm, gsNil, gsCons, gTp, sApp, sIns, sExt, sClr, sRev, sPut, sFrz, owAt, fin, st, iRng, iRngB, iSeq, lstD, tupD, sFor, dLc, dDc, wipeE, tYesD, dIndex, dSort, dDictZip, dMeth, dFld, dMk, List.map_cons, List.map_nil, List.length_cons, List.length_nil, List.replicate_succ, List.replicate_zero, List.cons_append, List.nil_append, List.append_nil, List.getElem?_cons_zero, List.getElem?_cons_succ, List.set_cons_zero, List.set_cons_succ, Option.bind_some, Option.map_some, Nat.reduceSub, Nat.reduceAdd, kwP, List.getD_cons_zero, List.getD_cons_succ, dSS]
  refine ⟨us, d, zs, rfl, hd, hl, ord_of hp, ?_⟩
  refine seq_strs hd ?_
  refine comp_map D.str (fun z => rectD (rctO us z)) zs [] (fun z h Q Z hQ => ?_) (by simp; omega) ?_
  · obtain ⟨r, hr, _⟩ := look_ex W.nd (hz z h).1
    simp only [dC, dV, dB, dO2, ob_some, dT, dAndT, dOrT, dNotT, dIf, dAndV, dOrV, dNotV, dChain, aNil, aCons, dTup, dLst, dCut, oNone, oSome, dRev, dNeg, dTru, dCa, dIs, dIsA, dCall, dCallK, sNil, sSeq, sNever, sBrk, sCont, sIf, sRet, sRetO, sRetE, sSet, sSetO, sDrop, sPar, sPar3, kn, enOf, owD, sAsg, gNm, gsNil, gsCons, gTp, sApp, sIns, sExt, sClr, sRev, sPut, sFrz, owAt, fin, st, iRng, iRngB, iSeq, lstD, tupD, sFor, dLc, dDc, wipeE, tYesD, dIndex, dSort, dDictZip, dMeth, dFld, dMk, List.map_cons, List.map_nil, List.length_cons, List.length_nil, List.replicate_succ, List.replicate_zero, List.cons_append, List.nil_append, List.append_nil, List.getElem?_cons_zero, List.getElem?_cons_succ, List.set_cons_zero, List.set_cons_succ, Option.bind_some, Option.map_some, Nat.reduceSub, Nat.reduceAdd, kwP, List.getD_cons_zero, List.getD_cons_succ, deskD, no_m hn]
    refine ⟨trivial, trivial, us, z, r, rfl, hr, ?_⟩
    have e : rctO us z = r := by unfold rctO; rw [hr]; rfl
    rw [e] at hQ
    exact hQ
  rw [List.nil_append]
  have key : ∀ (f1 f2 : R → Int) (l : List Int) (pr : l = asc (zs.flatMap fun z => [f1 (rctO us z), f2 (rctO us z)])), (zs.flatMap fun z => [f1 (rctO us z), f2 (rctO us z)]).length < 64 := fun f1 f2 _ _ => by
    rw [flat2_len]
    omega
  refine .inl (sOut_two (fun z => rectD (rctO us z)) (fun z => (rctO us z).l) (fun z => (rctO us z).r) zs [] (fun z h ac K hk hK => ?_) (by simp only [List.length_nil]; unfold scanBound; omega) ⟨by rw [List.nil_append, flat2_len]; omega, fun cs a1 a2 => ?_⟩)
  · simp only [dC, dV, dB, dO2, ob_some, dT, dAndT, dOrT, dNotT, dIf, dAndV, dOrV, dNotV, dChain, aNil, aCons, dTup, dLst, dCut, oNone, oSome, dRev, dNeg, dTru, dCa, dIs, dIsA, dCall, dCallK, sNil, sSeq, sNever, sBrk, sCont, sIf, sRet, sRetO, sRetE, sSet, sSetO, sDrop, sPar, sPar3, kn, enOf, owD, sAsg, gNm, gsNil, gsCons, gTp, sApp, sIns, sExt, sClr, sRev, sPut, sFrz, owAt, fin, st, iRng, iRngB, iSeq, lstD, tupD, sFor, dLc, dDc, wipeE, tYesD, dIndex, dSort, dDictZip, dMeth, dFld, dMk, List.map_cons, List.map_nil, List.length_cons, List.length_nil, List.replicate_succ, List.replicate_zero, List.cons_append, List.nil_append, List.append_nil, List.getElem?_cons_zero, List.getElem?_cons_succ, List.set_cons_zero, List.set_cons_succ, Option.bind_some, Option.map_some, Nat.reduceSub, Nat.reduceAdd, kwP, List.getD_cons_zero, List.getD_cons_succ, rectD, sIn]
    refine .inr (.inl ?_)
    exact ⟨by decide, _, rfl, by omega, _, rfl, by simp; omega, by rw [List.append_assoc]; exact hK⟩
  have ec : cs = colsOf us zs := asc_one a1 (asc_asc _) fun k => by rw [a2 k, List.nil_append]; exact (asc_mem _ k).symm
  subst ec
  simp only [dC, dV, dB, dO2, ob_some, dT, dAndT, dOrT, dNotT, dIf, dAndV, dOrV, dNotV, dChain, aNil, aCons, dTup, dLst, dCut, oNone, oSome, dRev, dNeg, dTru, dCa, dIs, dIsA, dCall, dCallK, sNil, sSeq, sNever, sBrk, sCont, sIf, sRet, sRetO, sRetE, sSet, sSetO, sDrop, sPar, sPar3, kn, enOf, owD, sAsg, gNm, gsNil, gsCons, gTp, sApp, sIns, sExt, sClr, sRev, sPut, sFrz, owAt, fin, st, iRng, iRngB, iSeq, lstD, tupD, sFor, dLc, dDc, wipeE, tYesD, dIndex, dSort, dDictZip, dMeth, dFld, dMk, List.map_cons, List.map_nil, List.length_cons, List.length_nil, List.replicate_succ, List.replicate_zero, List.cons_append, List.nil_append, List.append_nil, List.getElem?_cons_zero, List.getElem?_cons_succ, List.set_cons_zero, List.set_cons_succ, Option.bind_some, Option.map_some, Nat.reduceSub, Nat.reduceAdd, kwP, List.getD_cons_zero, List.getD_cons_succ]
  refine .inl (sOut_two (fun z => rectD (rctO us z)) (fun z => (rctO us z).t) (fun z => (rctO us z).b) zs [] (fun z h ac K hk hK => ?_) (by simp only [List.length_nil]; unfold scanBound; omega) ⟨by rw [List.nil_append, flat2_len]; omega, fun rs b1 b2 => ?_⟩)
  · simp only [dC, dV, dB, dO2, ob_some, dT, dAndT, dOrT, dNotT, dIf, dAndV, dOrV, dNotV, dChain, aNil, aCons, dTup, dLst, dCut, oNone, oSome, dRev, dNeg, dTru, dCa, dIs, dIsA, dCall, dCallK, sNil, sSeq, sNever, sBrk, sCont, sIf, sRet, sRetO, sRetE, sSet, sSetO, sDrop, sPar, sPar3, kn, enOf, owD, sAsg, gNm, gsNil, gsCons, gTp, sApp, sIns, sExt, sClr, sRev, sPut, sFrz, owAt, fin, st, iRng, iRngB, iSeq, lstD, tupD, sFor, dLc, dDc, wipeE, tYesD, dIndex, dSort, dDictZip, dMeth, dFld, dMk, List.map_cons, List.map_nil, List.length_cons, List.length_nil, List.replicate_succ, List.replicate_zero, List.cons_append, List.nil_append, List.append_nil, List.getElem?_cons_zero, List.getElem?_cons_succ, List.set_cons_zero, List.set_cons_succ, Option.bind_some, Option.map_some, Nat.reduceSub, Nat.reduceAdd, kwP, List.getD_cons_zero, List.getD_cons_succ, rectD, sIn]
    refine .inr (.inl ?_)
    exact ⟨by decide, _, rfl, by omega, _, rfl, by simp; omega, by rw [List.append_assoc]; exact hK⟩
  have er : rs = rowsOf us zs := asc_one b1 (asc_asc _) fun k => by rw [b2 k, List.nil_append]; exact (asc_mem _ k).symm
  subst er
  have cl : (colsOf us zs).length ≤ 48 := by
    have := asc_len (zs.flatMap fun z => [(rctO us z).l, (rctO us z).r])
    rw [flat2_len] at this
    unfold colsOf
    omega
  have rl : (rowsOf us zs).length ≤ 48 := by
    have := asc_len (zs.flatMap fun z => [(rctO us z).t, (rctO us z).b])
    rw [flat2_len] at this
    unfold rowsOf
    omega
  refine ⟨by decide, ?_⟩
  refine zip_ints (l := rowsOf us zs) (fun _ => by simp only [dC, dV, dB, dO2, ob_some, dT, dAndT, dOrT, dNotT, dIf, dAndV, dOrV, dNotV, dChain, aNil, aCons, dTup, dLst, dCut, oNone, oSome, dRev, dNeg, dTru, dCa, dIs, dIsA, dCall, dCallK, sNil, sSeq, sNever, sBrk, sCont, sIf, sRet, sRetO, sRetE, sSet, sSetO, sDrop, sPar, sPar3, kn, enOf, owD, sAsg, gNm, gsNil, gsCons, gTp, sApp, sIns, sExt, sClr, sRev, sPut, sFrz, owAt, fin, st, iRng, iRngB, iSeq, lstD, tupD, sFor, dLc, dDc, wipeE, tYesD, dIndex, dSort, dDictZip, dMeth, dFld, dMk, List.map_cons, List.map_nil, List.length_cons, List.length_nil, List.replicate_succ, List.replicate_zero, List.cons_append, List.nil_append, List.append_nil, List.getElem?_cons_zero, List.getElem?_cons_succ, List.set_cons_zero, List.set_cons_succ, Option.bind_some, Option.map_some, Nat.reduceSub, Nat.reduceAdd, kwP, List.getD_cons_zero, List.getD_cons_succ]) (fun _ => by simp only [dC, dV, dB, dO2, ob_some, dT, dAndT, dOrT, dNotT, dIf, dAndV, dOrV, dNotV, dChain, aNil, aCons, dTup, dLst, dCut, oNone, oSome, dRev, dNeg, dTru, dCa, dIs, dIsA, dCall, dCallK, sNil, sSeq, sNever, sBrk, sCont, sIf, sRet, sRetO, sRetE, sSet, sSetO, sDrop, sPar, sPar3, kn, enOf, owD, sAsg, gNm, gsNil, gsCons, gTp, sApp, sIns, sExt, sClr, sRev, sPut, sFrz, owAt, fin, st, iRng, iRngB, iSeq, lstD, tupD, sFor, dLc, dDc, wipeE, tYesD, dIndex, dSort, dDictZip, dMeth, dFld, dMk, List.map_cons, List.map_nil, List.length_cons, List.length_nil, List.replicate_succ, List.replicate_zero, List.cons_append, List.nil_append, List.append_nil, List.getElem?_cons_zero, List.getElem?_cons_succ, List.set_cons_zero, List.set_cons_succ, Option.bind_some, Option.map_some, Nat.reduceSub, Nat.reduceAdd, kwP, List.getD_cons_zero, List.getD_cons_succ]) ?_
  refine loop_all pI (prI (rowsOf us zs)) (fun pre env => ∃ e6 e7 e8 e9 e10 e11 e12 e13, env = [.fz (deskD C us), .fz d, .fz (.lst (zs.map fun z => rectD (rctO us z))), .fz (.lst ((colsOf us zs).map D.int)), .fz (.lst ((rowsOf us zs).map D.int)), .ow ((pre.flatMap fun c => (runsT (fun x => topF us zs x c.1) (colsOf us zs)).map (bandT c)).map tileD), e6, e7, e8, e9, e10, e11, e12, e13]) ⟨_, _, _, _, _, _, _, _, rfl⟩ (fun pre c post env e h k hk => ?_) (fun env h => ?_)
  · obtain ⟨e6, e7, e8, e9, e10, e11, e12, e13, rfl⟩ := h
    have hpl : pre.length < 48 := by
      have := congrArg List.length e
      rw [prI_len] at this
      simp at this
      omega
    have bd : (pre.flatMap fun c => (runsT (fun x => topF us zs x c.1) (colsOf us zs)).map (bandT c)).length ≤ pre.length * 48 := flat_bd fun c => by
      rw [List.length_map]
      exact Nat.le_trans (runs_len _ _) cl
    have bd2 : pre.length * 48 ≤ 48 * 48 := Nat.mul_le_mul_right 48 (by omega)
    obtain ⟨c1, c2⟩ := c
    simp only [pI, dC, dV, dB, dO2, ob_some, dT, dAndT, dOrT, dNotT, dIf, dAndV, dOrV, dNotV, dChain, aNil, aCons, dTup, dLst, dCut, oNone, oSome, dRev, dNeg, dTru, dCa, dIs, dIsA, dCall, dCallK, sNil, sSeq, sNever, sBrk, sCont, sIf, sRet, sRetO, sRetE, sSet, sSetO, sDrop, sPar, sPar3, kn, enOf, owD, sAsg, gNm, gsNil, gsCons, gTp, sApp, sIns, sExt, sClr, sRev, sPut, sFrz, owAt, fin, st, iRng, iRngB, iSeq, lstD, tupD, sFor, dLc, dDc, wipeE, tYesD, dIndex, dSort, dDictZip, dMeth, dFld, dMk, List.map_cons, List.map_nil, List.length_cons, List.length_nil, List.replicate_succ, List.replicate_zero, List.cons_append, List.nil_append, List.append_nil, List.getElem?_cons_zero, List.getElem?_cons_succ, List.set_cons_zero, List.set_cons_succ, Option.bind_some, Option.map_some, Nat.reduceSub, Nat.reduceAdd, kwP, List.getD_cons_zero, List.getD_cons_succ]
    refine ⟨trivial, trivial, us, d, zs, _, c1, rfl, hd, by omega, W.nd, hz, by omega, ?_⟩
    have rn := runs_len (fun x => topF us zs x c1) (colsOf us zs)
    refine .inl (comp_map runD (fun u => tileD (bandT (c1, c2) u)) (runsT (fun x => topF us zs x c1) (colsOf us zs)) [] (fun u _ Q Z hQ => ?_) (by simp; omega) ?_)
    · simp only [runD, dC, dV, dB, dO2, ob_some, dT, dAndT, dOrT, dNotT, dIf, dAndV, dOrV, dNotV, dChain, aNil, aCons, dTup, dLst, dCut, oNone, oSome, dRev, dNeg, dTru, dCa, dIs, dIsA, dCall, dCallK, sNil, sSeq, sNever, sBrk, sCont, sIf, sRet, sRetO, sRetE, sSet, sSetO, sDrop, sPar, sPar3, kn, enOf, owD, sAsg, gNm, gsNil, gsCons, gTp, sApp, sIns, sExt, sClr, sRev, sPut, sFrz, owAt, fin, st, iRng, iRngB, iSeq, lstD, tupD, sFor, dLc, dDc, wipeE, tYesD, dIndex, dSort, dDictZip, dMeth, dFld, dMk, List.map_cons, List.map_nil, List.length_cons, List.length_nil, List.replicate_succ, List.replicate_zero, List.cons_append, List.nil_append, List.append_nil, List.getElem?_cons_zero, List.getElem?_cons_succ, List.set_cons_zero, List.set_cons_succ, Option.bind_some, Option.map_some, Nat.reduceSub, Nat.reduceAdd, kwP, List.getD_cons_zero, List.getD_cons_succ]
      exact ⟨trivial, trivial, by decide, by decide, hQ⟩
    · rw [List.nil_append]
      refine ⟨by simp only [List.length_map]; unfold sizeLine; omega, ?_⟩
      have e3 : (pre.flatMap fun c => (runsT (fun x => topF us zs x c.1) (colsOf us zs)).map (bandT c)).map tileD ++ (runsT (fun x => topF us zs x c1) (colsOf us zs)).map (fun u => tileD (bandT (c1, c2) u)) = ((pre ++ [(c1, c2)]).flatMap fun c => (runsT (fun x => topF us zs x c.1) (colsOf us zs)).map (bandT c)).map tileD := by
        rw [List.flatMap_append, List.map_append, List.flatMap_cons, List.flatMap_nil, List.append_nil, List.map_map]
        rfl
      rw [e3]
      exact hk _ ⟨_, _, _, _, _, _, _, _, rfl⟩
  · obtain ⟨e6, e7, e8, e9, e10, e11, e12, e13, rfl⟩ := h
    simp only [dC, dV, dB, dO2, ob_some, dT, dAndT, dOrT, dNotT, dIf, dAndV, dOrV, dNotV, dChain, aNil, aCons, dTup, dLst, dCut, oNone, oSome, dRev, dNeg, dTru, dCa, dIs, dIsA, dCall, dCallK, sNil, sSeq, sNever, sBrk, sCont, sIf, sRet, sRetO, sRetE, sSet, sSetO, sDrop, sPar, sPar3, kn, enOf, owD, sAsg, gNm, gsNil, gsCons, gTp, sApp, sIns, sExt, sClr, sRev, sPut, sFrz, owAt, fin, st, iRng, iRngB, iSeq, lstD, tupD, sFor, dLc, dDc, wipeE, tYesD, dIndex, dSort, dDictZip, dMeth, dFld, dMk, List.map_cons, List.map_nil, List.length_cons, List.length_nil, List.replicate_succ, List.replicate_zero, List.cons_append, List.nil_append, List.append_nil, List.getElem?_cons_zero, List.getElem?_cons_succ, List.set_cons_zero, List.set_cons_succ, Option.bind_some, Option.map_some, Nat.reduceSub, Nat.reduceAdd, kwP, List.getD_cons_zero, List.getD_cons_succ]
    exact q
end DL
namespace DL
open PySem PySem.Spec PyProof.Rows L2 RK
def keysOf (kds : List (Key × D)) : List Key := kds.map (·.1)
theorem has_key (kds : List (Key × D)) (z : Key) : (valD kds z).isSome = true ↔ z ∈ keysOf kds := by
  unfold valD keysOf
  rw [Option.isSome_map, List.find?_isSome]
  constructor
  · rintro ⟨q, hq, e⟩
    rw [← of_decide_eq_true e]
    exact List.mem_map.mpr ⟨q, hq, rfl⟩
  · intro h
    obtain ⟨q, hq, e⟩ := List.mem_map.mp h
    exact ⟨q, hq, decide_eq_true e⟩
theorem keys_put (kds : List (Key × D)) (k : Key) (y : D) (z : Key) : z ∈ keysOf (putD kds k y) ↔ z ∈ keysOf kds ∨ z = k := by
  unfold putD
  by_cases h : (kds.any fun kd => decide (kd.1 = k)) = true
  · rw [if_pos h]
    have e : keysOf (kds.map fun kv => if kv.1 = k then (kv.1, y) else kv) = keysOf kds := by
      unfold keysOf
      rw [List.map_map]
      refine List.map_congr_left fun q _ => ?_
      show (if q.1 = k then (q.1, y) else q).1 = q.1
      by_cases g : q.1 = k
      · rw [if_pos g]
      · rw [if_neg g]
    rw [e]
    refine ⟨.inl, fun g => g.elim id fun g => ?_⟩
    obtain ⟨q, hq, e2⟩ := List.any_eq_true.mp h
    rw [g, ← of_decide_eq_true e2]
    exact List.mem_map.mpr ⟨q, hq, rfl⟩
  · rw [if_neg h]
    unfold keysOf
    rw [List.map_append, List.mem_append]
    simp
theorem put_len (kds : List (Key × D)) (k : Key) (y : D) : (putD kds k y).length ≤ kds.length + 1 := by
  unfold putD
  by_cases h : (kds.any fun kd => decide (kd.1 = k)) = true
  · rw [if_pos h, List.length_map]; omega
  · rw [if_neg h]; simp
theorem dcomp_keys {α : Type} {g : TDG} {tt : TDT} {tk tv : TDE} {P : D → Prop} {env : De} (enc : α → D) (key : α → Key) (v : D) : ∀ (l : List α) (acc : List (Key × D)), (∀ a ∈ l, ∀ (Q : Key → D → Prop) (Z : Prop), Q (key a) v → g (enc a) env fun env' => tt env' fun b => if b = true then tk env' fun k => tv env' fun y => ob (keyD k) fun k => Q k y else Z) →
    acc.length + l.length ≤ 1000000 → (∀ kds : List (Key × D), (∀ z, z ∈ keysOf kds ↔ z ∈ keysOf acc ∨ z ∈ l.map key) → P (.dic kds)) → dDcomp g tt tk tv P env (l.map enc) acc
  | [], acc, _, _, q => q acc fun z => by simp
  | a :: l, acc, h, hl, q => by
    refine h a List.mem_cons_self (fun k y => acc.length < sizeLine ∧ dDcomp g tt tk tv P env (l.map enc) (putD acc k y)) _ ⟨szM (by simp at hl; omega), ?_⟩
    refine dcomp_keys enc key v l _ (fun b hb => h b (List.mem_cons_of_mem _ hb)) (by have := put_len acc (key a) v; simp at hl; omega) fun kds hk => q kds fun z => ?_
    rw [hk, keys_put, List.map_cons, List.mem_cons]
    constructor
    · rintro ((h | h) | h)
      · exact .inl h
      · exact .inr (.inl h)
      · exact .inr (.inr h)
    · rintro (h | h | h)
      · exact .inl (.inl h)
      · exact .inl (.inr h)
      · exact .inr h
def Knows (kds : List (Key × D)) (p : Str → Prop) : Prop := ∀ z : Str, (Sum.inr z : Key) ∈ keysOf kds ↔ p z
theorem bIn_kn {neg : Bool} {kds : List (Key × D)} {p : Str → Prop} [DecidablePred p] (h : Knows kds p) (z : Str) : bIn neg (.str z) (.dic kds) = some (.bl (neg ^^ decide (p z))) := by
  show (none : Option D).or ((some (D.bl (neg ^^ (valD kds (Sum.inr z : Key)).isSome))).or _) = _
  have e : (valD kds (Sum.inr z : Key)).isSome = decide (p z) := by
    rw [Bool.eq_iff_iff, has_key, h z, decide_eq_true_iff]
  rw [e]
  rfl
theorem enu_zipG {α : Type} (enc : α → D) : ∀ (l : List α) (k : Nat), enuD k (l.map enc) = (l.zipIdx k).map fun p => .tup [.int ((p.2 : Nat) : Int), enc p.1]
  | [], _ => rfl
  | z :: zs, k => by rw [List.map_cons, enuD, enu_zipG enc zs (k + 1), List.zipIdx_cons, List.map_cons]
def IsPrs (d : D) (ps : List SP) : Prop := d = .lst (ps.map pairD) ∨ d = .tup (ps.map pairD)
def sp_is_pair : DSp := fun ds P => ∃ (kds : List (Key × D)) (zs : List Str) (p : SP), ds = [.dic kds, pairD p] ∧ Knows kds (· ∈ zs) ∧ p.1 ∈ zs ∧ p.2 ∈ zs ∧ p.1 ≠ p.2 ∧ NameOk p.1 ∧ NameOk p.2 ∧ P (.bl true)
def d_is_pair : TDS := (sSeq (sIf (dOrT (dNotT (dT (dIs "tuple" (dV 1)))) (dT (dO2 (bEqN true) (dCa lenD (aCons (dV 1) aNil)) (dC (.int 2))))) (sRet (dC (.bl false))) sNil)
  (sRet (dAndV (dCa allD (aCons (dLc (iSeq (dV 1)) (gNm 2) tYesD (dAndV (dIs "str" (dV 2)) (dO2 (bIn false) (dV 2) (dV 0))) [2]) aNil)) (dO2 (bEqN true) (dO2 bIx (dV 1) (dC (.int 0))) (dO2 bIx (dV 1) (dC (.int 1)))))))
theorem rd_is_pair {ds : List D} {P : D → Prop} (h : sp_is_pair ds P) : d_is_pair (fin false P) (st 3 ds) := by
  obtain ⟨kds, zs, p, rfl, hk, h1, h2, ne, n1, n2, q⟩ := h
  have i1 := bIn_kn (neg := false) hk p.1
  have i2 := bIn_kn (neg := false) hk p.2
  rw [decide_eq_true h1] at i1
  rw [decide_eq_true h2] at i2
  have en : bEqN true (.str p.1) (.str p.2) = some (.bl true) := by
    obtain ⟨b, e, hb⟩ := beq_iff (neg := true) (n := 0) (x := .str p.1) (y := .str p.2) (by decide) (name_ok n1) (name_ok n2)
    rw [e]
    cases b with
    | true => exact absurd (D.str.inj (hb.mp rfl)) ne
    | false => rfl
  have t1 : isD "tuple" (.tup [.str p.1, .str p.2]) = some true := rfl
  have t2 : ∀ x : Str, isD "str" (.str x) = some true := fun _ => rfl
  have l2 : lenD [.tup [.str p.1, .str p.2]] = some (.int 2) := rfl
  have e2 : bEqN true (.int 2) (.int 2) = some (.bl false) := rfl
  have x0 : bIx (.tup [.str p.1, .str p.2]) (.int 0) = some (.str p.1) := rfl
  have x1 : bIx (.tup [.str p.1, .str p.2]) (.int 1) = some (.str p.2) := rfl
  simp only [d_is_pair, dC, dV, dB, dO2, ob_some, dT, dAndT, dOrT, dNotT, dIf, dAndV, dOrV, dNotV, dChain, aNil, aCons, dTup, dLst, dCut, oNone, oSome, dRev, dNeg, dTru, dCa, dIs, dIsA, dCall, dCallK, sNil, sSeq, sNever, sBrk, sCont, sIf, sRet, sRetO, sRetE, sSet, sSetO, sDrop, sPar, sPar3, kn, enOf, owD, sAsg, gNm, gsNil, gsCons, gTp, sApp, sIns, sExt, sClr, sRev, sPut, sFrz, owAt, fin, st, iRng, iRngB, iSeq, lstD, tupD, sFor, dLc, dDc, wipeE, tYesD, dIndex, dSort, dDictZip, dMeth, dFld, dMk, List.map_cons, List.map_nil, List.length_cons, List.length_nil, List.replicate_succ, List.replicate_zero, List.cons_append, List.nil_append, List.append_nil, List.getElem?_cons_zero, List.getElem?_cons_succ, List.set_cons_zero, List.set_cons_succ, Option.bind_some, Option.map_some, Nat.reduceSub, Nat.reduceAdd, kwP, List.getD_cons_zero, List.getD_cons_succ, pairD, t1, l2, e2, Bool.not_true, Bool.false_eq_true, if_false]
  refine .inr (.inl ?_)
  refine comp_map D.str (fun _ => D.bl true) [p.1, p.2] [] (fun z hz Q Z hQ => ?_) (by simp) ?_
  · have iz : bIn false (.str z) (.dic kds) = some (.bl true) := by
      simp only [List.mem_cons, List.not_mem_nil, or_false] at hz
      rcases hz with rfl | rfl
      · exact i1
      · exact i2
    simp only [dC, dV, dB, dO2, ob_some, dT, dAndT, dOrT, dNotT, dIf, dAndV, dOrV, dNotV, dChain, aNil, aCons, dTup, dLst, dCut, oNone, oSome, dRev, dNeg, dTru, dCa, dIs, dIsA, dCall, dCallK, sNil, sSeq, sNever, sBrk, sCont, sIf, sRet, sRetO, sRetE, sSet, sSetO, sDrop, sPar, sPar3, kn, enOf, owD, sAsg, gNm, gsNil, gsCons, gTp, sApp, sIns, sExt, sClr, sRev, sPut, sFrz, owAt, fin, st, iRng, iRngB, iSeq, lstD, tupD, sFor, dLc, dDc, wipeE, tYesD, dIndex, dSort, dDictZip, dMeth, dFld, dMk, List.map_cons, List.map_nil, List.length_cons, List.length_nil, List.replicate_succ, List.replicate_zero, List.cons_append, List.nil_append, List.append_nil, List.getElem?_cons_zero, List.getElem?_cons_succ, List.set_cons_zero, List.set_cons_succ, Option.bind_some, Option.map_some, Nat.reduceSub, Nat.reduceAdd, kwP, List.getD_cons_zero, List.getD_cons_succ, t2, iz, if_true]
    exact hQ
  · have ea : allD [.lst ([] ++ [p.1, p.2].map fun _ => D.bl true)] = some (.bl true) := rfl
    simp only [ea, ob_some, if_true, x0, x1, en]
    exact q
def sp_check_wish : DSp := fun ds P => ∃ d zs e ps, ds = [d, e] ∧ IsSeq d zs ∧ IsPrs e ps ∧ zs.length ≤ 100000 ∧ ps.length ≤ 100000 ∧ (∀ p ∈ ps, p.1 ∈ zs ∧ p.2 ∈ zs ∧ p.1 ≠ p.2) ∧ (∀ z ∈ zs, NameOk z) ∧ P .non
def d_check_wish : TDS := (sSeq (sSet 2 (dDc (iSeq (dV 0)) (gNm 5) tYesD (dV 5) (dC (.bl true)) [5]))
  (sFor (iEnu (dV 1)) (gTp 2 (gsCons (gNm 3) (gsCons (gNm 4) gsNil))) (sIf (dNotT (dT (dCall sp_is_pair (aCons (dV 2) (aCons (dV 4) aNil))))) sNever sNil)))
theorem rd_check_wish {ds : List D} {P : D → Prop} (h : sp_check_wish ds P) : d_check_wish (fin false P) (st 6 ds) := by
  obtain ⟨d, zs, e, ps, rfl, hd, he, lz, lp, hp, nm, q⟩ := h
  simp only [d_check_wish, dC, dV, dB, dO2, ob_some, dT, dAndT, dOrT, dNotT, dIf, dAndV, dOrV, dNotV, dChain, aNil, aCons, dTup, dLst, dCut, oNone, oSome, dRev, dNeg, dTru, dCa, dIs, dIsA, dCall, dCallK, sNil, sSeq, sNever, sBrk, sCont, sIf, sRet, sRetO, sRetE, sSet, sSetO, sDrop, sPar, sPar3, kn, enOf, owD, sAsg, gNm, gsNil, gsCons, gTp, sApp, sIns, sExt, sClr, sRev, sPut, sFrz, owAt, fin, st, iRng, iRngB, iSeq, lstD, tupD, sFor, dLc, dDc, wipeE, tYesD, dIndex, dSort, dDictZip, dMeth, dFld, dMk, List.map_cons, List.map_nil, List.length_cons, List.length_nil, List.replicate_succ, List.replicate_zero, List.cons_append, List.nil_append, List.append_nil, List.getElem?_cons_zero, List.getElem?_cons_succ, List.set_cons_zero, List.set_cons_succ, Option.bind_some, Option.map_some, Nat.reduceSub, Nat.reduceAdd, kwP, List.getD_cons_zero, List.getD_cons_succ, iEnu]
  refine seq_strs hd ?_
  refine dcomp_keys D.str Sum.inr (.bl true) zs [] (fun z hz Q Z hQ => ?_) (by simp; omega) (fun kds hk => ?_)
  · simp only [dC, dV, dB, dO2, ob_some, dT, dAndT, dOrT, dNotT, dIf, dAndV, dOrV, dNotV, dChain, aNil, aCons, dTup, dLst, dCut, oNone, oSome, dRev, dNeg, dTru, dCa, dIs, dIsA, dCall, dCallK, sNil, sSeq, sNever, sBrk, sCont, sIf, sRet, sRetO, sRetE, sSet, sSetO, sDrop, sPar, sPar3, kn, enOf, owD, sAsg, gNm, gsNil, gsCons, gTp, sApp, sIns, sExt, sClr, sRev, sPut, sFrz, owAt, fin, st, iRng, iRngB, iSeq, lstD, tupD, sFor, dLc, dDc, wipeE, tYesD, dIndex, dSort, dDictZip, dMeth, dFld, dMk, List.map_cons, List.map_nil, List.length_cons, List.length_nil, List.replicate_succ, List.replicate_zero, List.cons_append, List.nil_append, List.append_nil, List.getElem?_cons_zero, List.getElem?_cons_succ, List.set_cons_zero, List.set_cons_succ, Option.bind_some, Option.map_some, Nat.reduceSub, Nat.reduceAdd, kwP, List.getD_cons_zero, List.getD_cons_succ, keyD, if_true]
    exact hQ
  · have kn : Knows kds (· ∈ zs) := fun z => by
      rw [hk]
      constructor
      · rintro (h | h)
        · cases h
        · obtain ⟨y, hy, e⟩ := List.mem_map.mp h
          rw [← Sum.inr.inj e]
          exact hy
      · exact fun h => .inr (List.mem_map.mpr ⟨z, h, rfl⟩)
    have loop : ∀ x5 : En, sLoop (gTp 2 (gsCons (gNm 3) (gsCons (gNm 4) gsNil))) (sIf (dNotT (dT (dCall sp_is_pair (aCons (dV 2) (aCons (dV 4) aNil))))) sNever sNil) { nx := fun _ => True ∧ P .non, rt := P } (enuD 0 (ps.map pairD)) [.fz d, .fz e, .fz (.dic kds), .no, .no, x5] := fun x5 => by
      rw [enu_zipG]
      refine loop_all (fun r : SP × Nat => D.tup [.int ((r.2 : Nat) : Int), pairD r.1]) ps.zipIdx (fun _ env => ∃ e3 e4 e5, env = [.fz d, .fz e, .fz (.dic kds), e3, e4, e5]) ⟨_, _, _, rfl⟩ (fun pre r post env ee h k hkk => ?_) (fun env h => ⟨trivial, q⟩)
      obtain ⟨e3, e4, e5, rfl⟩ := h
      have hm : r.1 ∈ ps := by
        have : r ∈ ps.zipIdx := by rw [ee]; simp
        have h2 : r.1 ∈ (ps.zipIdx).map Prod.fst := List.mem_map.mpr ⟨r, this, rfl⟩
        rw [List.zipIdx_map_fst] at h2
        exact h2
      obtain ⟨a1, a2, a3⟩ := hp r.1 hm
      simp only [dC, dV, dB, dO2, ob_some, dT, dAndT, dOrT, dNotT, dIf, dAndV, dOrV, dNotV, dChain, aNil, aCons, dTup, dLst, dCut, oNone, oSome, dRev, dNeg, dTru, dCa, dIs, dIsA, dCall, dCallK, sNil, sSeq, sNever, sBrk, sCont, sIf, sRet, sRetO, sRetE, sSet, sSetO, sDrop, sPar, sPar3, kn, enOf, owD, sAsg, gNm, gsNil, gsCons, gTp, sApp, sIns, sExt, sClr, sRev, sPut, sFrz, owAt, fin, st, iRng, iRngB, iSeq, lstD, tupD, sFor, dLc, dDc, wipeE, tYesD, dIndex, dSort, dDictZip, dMeth, dFld, dMk, List.map_cons, List.map_nil, List.length_cons, List.length_nil, List.replicate_succ, List.replicate_zero, List.cons_append, List.nil_append, List.append_nil, List.getElem?_cons_zero, List.getElem?_cons_succ, List.set_cons_zero, List.set_cons_succ, Option.bind_some, Option.map_some, Nat.reduceSub, Nat.reduceAdd, kwP, List.getD_cons_zero, List.getD_cons_succ]
      refine ⟨trivial, trivial, kds, zs, r.1, rfl, kn, a1, a2, a3, nm _ a1, nm _ a2, ?_⟩
      simp only [Bool.not_true, Bool.false_eq_true, if_false]
      exact hkk _ ⟨_, _, _, rfl⟩
    rcases he with rfl | rfl
    · exact .inl (loop .no)
    · exact .inr (loop .no)
def frees (ws : List Str) (ps : List SP) : List Str := ws.filter fun z => !(decide (z ∈ ps.map (·.2)))
def settle : Nat → List Str → List SP → List Str
  | 0, _, _ => []
  | n + 1, ws, ps => match frees ws ps with
    | [] => []
    | f :: _ => f :: settle n (ws.erase f) (ps.filter fun p => !(decide (p.1 = f)))
def sp_settled : DSp := fun ds P => ∃ zs e ps, ds = [.lst (zs.map D.str), e] ∧ IsPrs e ps ∧ zs.length < 64 ∧ ps.length ≤ 100000 ∧ (∀ z ∈ zs, NameOk z) ∧ (∀ p ∈ ps, NameOk p.1) ∧ ∀ ys, SortS zs ys → P (.lst ((settle (zs.length + 1) ys ps).map D.str))
def d_settled : TDS := (sSeq (sSetO 2 (dSort (dV 0)))
  (sSeq (sSet 3 (dCa listD (aCons (dV 1) aNil)))
  (sSeq (sSetO 4 (dLst aNil))
  (sWhile (dT (dC (.bl true))) (sSeq (sSet 5 (dDc (iSeq (dV 3)) (gTp 2 (gsCons (gNm 7) (gsCons (gNm 8) gsNil))) tYesD (dV 8) (dC (.bl true)) [7, 8]))
  (sSeq (sSet 6 (dLc (iSeq (dB 2)) (gNm 9) (dT (dO2 (bIn true) (dV 9) (dV 5))) (dV 9) [9]))
  (sSeq (sIf (dNotT (dTru (dV 6))) (sRetO 4) sNil)
  (sSeq (sApp 4 (dO2 bIx (dV 6) (dC (.int 0))))
  (sSeq (sRem 2 (dO2 bIx (dV 6) (dC (.int 0))))
  (sSet 3 (dLc (iSeq (dV 3)) (gTp 2 (gsCons (gNm 7) (gsCons (gNm 8) gsNil))) (dT (dO2 (bEqN true) (dV 7) (dO2 bIx (dV 6) (dC (.int 0))))) (dTup (aCons (dV 7) (aCons (dV 8) aNil))) [7, 8])))))))))))
theorem strs_map : ∀ zs : List Str, strsD (zs.map D.str) = some zs
  | [] => rfl
  | z :: zs => by
    show (strsD (zs.map D.str)).map _ = _
    rw [strs_map zs]
    rfl
theorem rd_settled {ds : List D} {P : D → Prop} (h : sp_settled ds P) : d_settled (fin true P) (st 10 ds) := by
  obtain ⟨zs, e, ps, rfl, he, lz, lp, nm, np, q⟩ := h
  have el : listD [e] = some (.lst (ps.map pairD)) := by rcases he with rfl | rfl <;> rfl
  simp only [d_settled, dC, dV, dB, dO2, ob_some, dT, dAndT, dOrT, dNotT, dIf, dAndV, dOrV, dNotV, dChain, aNil, aCons, dTup, dLst, dCut, oNone, oSome, dRev, dNeg, dTru, dCa, dIs, dIsA, dCall, dCallK, sNil, sSeq, sNever, sBrk, sCont, sIf, sRet, sRetO, sRetE, sSet, sSetO, sDrop, sPar, sPar3, kn, enOf, owD, sAsg, gNm, gsNil, gsCons, gTp, sApp, sIns, sExt, sClr, sRev, sPut, sFrz, owAt, fin, st, iRng, iRngB, iSeq, lstD, tupD, sFor, dLc, dDc, wipeE, tYesD, dIndex, dSort, dDictZip, dMeth, dFld, dMk, List.map_cons, List.map_nil, List.length_cons, List.length_nil, List.replicate_succ, List.replicate_zero, List.cons_append, List.nil_append, List.append_nil, List.getElem?_cons_zero, List.getElem?_cons_succ, List.set_cons_zero, List.set_cons_succ, Option.bind_some, Option.map_some, Nat.reduceSub, Nat.reduceAdd, kwP, List.getD_cons_zero, List.getD_cons_succ]
  refine .inl ⟨zs, strs_map zs, lz, fun ys hs => ?_⟩
  simp only [el, ob_some, dC, dV, dB, dO2, ob_some, dT, dAndT, dOrT, dNotT, dIf, dAndV, dOrV, dNotV, dChain, aNil, aCons, dTup, dLst, dCut, oNone, oSome, dRev, dNeg, dTru, dCa, dIs, dIsA, dCall, dCallK, sNil, sSeq, sNever, sBrk, sCont, sIf, sRet, sRetO, sRetE, sSet, sSetO, sDrop, sPar, sPar3, kn, enOf, owD, sAsg, gNm, gsNil, gsCons, gTp, sApp, sIns, sExt, sClr, sRev, sPut, sFrz, owAt, fin, st, iRng, iRngB, iSeq, lstD, tupD, sFor, dLc, dDc, wipeE, tYesD, dIndex, dSort, dDictZip, dMeth, dFld, dMk, List.map_cons, List.map_nil, List.length_cons, List.length_nil, List.replicate_succ, List.replicate_zero, List.cons_append, List.nil_append, List.append_nil, List.getElem?_cons_zero, List.getElem?_cons_succ, List.set_cons_zero, List.set_cons_succ, Option.bind_some, Option.map_some, Nat.reduceSub, Nat.reduceAdd, kwP, List.getD_cons_zero, List.getD_cons_succ]
  refine ⟨by decide, ?_⟩
  refine ⟨fun m env => ∃ (n : Nat) (ws : List Str) (qs : List SP) (acc : List Str) (e5 e6 e7 e8 e9 : En), env = [.fz (.lst (zs.map D.str)), .fz e, .ow (ws.map D.str), .fz (.lst (qs.map pairD)), .ow (acc.map D.str), e5, e6, e7, e8, e9] ∧ acc ++ settle n ws qs = settle (zs.length + 1) ys ps ∧ ws.length < n ∧ m = ws.length ∧ acc.length + ws.length ≤ 64 ∧ qs.length ≤ 100000 ∧ (∀ z ∈ ws, NameOk z) ∧ (∀ p ∈ qs, NameOk p.1), ⟨ys.length, zs.length + 1, ys, ps, [], _, _, _, _, _, rfl, rfl, by rw [hs.1.length_eq]; omega, rfl, by rw [hs.1.length_eq]; simp; omega, lp, fun z hz => nm z (hs.1.mem_iff.mp hz), np⟩, ?_⟩
  rintro m env ⟨n, ws, qs, acc, e5, e6, e7, e8, e9, rfl, hse, hwn, rfl, hal, hql, nw, nq⟩
  simp only [dC, dV, dB, dO2, ob_some, dT, dAndT, dOrT, dNotT, dIf, dAndV, dOrV, dNotV, dChain, aNil, aCons, dTup, dLst, dCut, oNone, oSome, dRev, dNeg, dTru, dCa, dIs, dIsA, dCall, dCallK, sNil, sSeq, sNever, sBrk, sCont, sIf, sRet, sRetO, sRetE, sSet, sSetO, sDrop, sPar, sPar3, kn, enOf, owD, sAsg, gNm, gsNil, gsCons, gTp, sApp, sIns, sExt, sClr, sRev, sPut, sFrz, owAt, fin, st, iRng, iRngB, iSeq, lstD, tupD, sFor, dLc, dDc, wipeE, tYesD, dIndex, dSort, dDictZip, dMeth, dFld, dMk, List.map_cons, List.map_nil, List.length_cons, List.length_nil, List.replicate_succ, List.replicate_zero, List.cons_append, List.nil_append, List.append_nil, List.getElem?_cons_zero, List.getElem?_cons_succ, List.set_cons_zero, List.set_cons_succ, Option.bind_some, Option.map_some, Nat.reduceSub, Nat.reduceAdd, kwP, List.getD_cons_zero, List.getD_cons_succ, if_true]
  obtain ⟨k, rfl⟩ : ∃ k, n = k + 1 := ⟨n - 1, by omega⟩
  refine .inl (dcomp_keys pairD (fun p : SP => (Sum.inr p.2 : Key)) (.bl true) qs [] (fun p hp Q Z hQ => ?_) (by simp; omega) (fun kds hk => ?_))
  · simp only [pairD, dC, dV, dB, dO2, ob_some, dT, dAndT, dOrT, dNotT, dIf, dAndV, dOrV, dNotV, dChain, aNil, aCons, dTup, dLst, dCut, oNone, oSome, dRev, dNeg, dTru, dCa, dIs, dIsA, dCall, dCallK, sNil, sSeq, sNever, sBrk, sCont, sIf, sRet, sRetO, sRetE, sSet, sSetO, sDrop, sPar, sPar3, kn, enOf, owD, sAsg, gNm, gsNil, gsCons, gTp, sApp, sIns, sExt, sClr, sRev, sPut, sFrz, owAt, fin, st, iRng, iRngB, iSeq, lstD, tupD, sFor, dLc, dDc, wipeE, tYesD, dIndex, dSort, dDictZip, dMeth, dFld, dMk, List.map_cons, List.map_nil, List.length_cons, List.length_nil, List.replicate_succ, List.replicate_zero, List.cons_append, List.nil_append, List.append_nil, List.getElem?_cons_zero, List.getElem?_cons_succ, List.set_cons_zero, List.set_cons_succ, Option.bind_some, Option.map_some, Nat.reduceSub, Nat.reduceAdd, kwP, List.getD_cons_zero, List.getD_cons_succ, keyD, if_true]
    exact ⟨trivial, trivial, hQ⟩
  · have kn : Knows kds (· ∈ qs.map (·.2)) := fun z => by
      rw [hk]
      constructor
      · rintro (h | h)
        · cases h
        · obtain ⟨y, hy, e⟩ := List.mem_map.mp h
          exact List.mem_map.mpr ⟨y, hy, Sum.inr.inj e⟩
      · intro h
        obtain ⟨y, hy, e⟩ := List.mem_map.mp h
        exact .inr (List.mem_map.mpr ⟨y, hy, by rw [← e]⟩)
    refine .inl (comp_filter D.str D.str (fun z => !(decide (z ∈ qs.map (·.2)))) ws [] (fun z hz Q Z h1 h2 => ?_) (by simp; omega) ?_)
    · simp only [dC, dV, dB, dO2, ob_some, dT, dAndT, dOrT, dNotT, dIf, dAndV, dOrV, dNotV, dChain, aNil, aCons, dTup, dLst, dCut, oNone, oSome, dRev, dNeg, dTru, dCa, dIs, dIsA, dCall, dCallK, sNil, sSeq, sNever, sBrk, sCont, sIf, sRet, sRetO, sRetE, sSet, sSetO, sDrop, sPar, sPar3, kn, enOf, owD, sAsg, gNm, gsNil, gsCons, gTp, sApp, sIns, sExt, sClr, sRev, sPut, sFrz, owAt, fin, st, iRng, iRngB, iSeq, lstD, tupD, sFor, dLc, dDc, wipeE, tYesD, dIndex, dSort, dDictZip, dMeth, dFld, dMk, List.map_cons, List.map_nil, List.length_cons, List.length_nil, List.replicate_succ, List.replicate_zero, List.cons_append, List.nil_append, List.append_nil, List.getElem?_cons_zero, List.getElem?_cons_succ, List.set_cons_zero, List.set_cons_succ, Option.bind_some, Option.map_some, Nat.reduceSub, Nat.reduceAdd, kwP, List.getD_cons_zero, List.getD_cons_succ, bIn_kn kn, Bool.true_xor]
      cases hc : decide (z ∈ qs.map (·.2)) with
      | true =>
        rw [hc] at h2
        simpa using h2 rfl
      | false =>
        rw [hc] at h1
        simpa using h1 rfl
    · rw [List.nil_append]
      have ef : ws.filter (fun z => !(decide (z ∈ qs.map (·.2)))) = frees ws qs := rfl
      rw [ef]
      cases hf : frees ws qs with
      | nil =>
        rw [settle, hf] at hse
        simp only [List.append_nil] at hse
        rw [hse]
        exact q ys hs
      | cons f r =>
        rw [settle, hf] at hse
        have hm : f ∈ ws := (List.mem_filter.mp (show f ∈ frees ws qs by rw [hf]; exact List.mem_cons_self)).1
        have t1 : truD (.lst ((f :: r).map D.str)) = some true := rfl
        have x0 : bIx (.lst ((f :: r).map D.str)) (.int 0) = some (.str f) := bIx_l (j := 0) rfl
        have x1 : bIx (.lst (D.str f :: r.map D.str)) (.int 0) = some (.str f) := bIx_l (j := 0) rfl
        have le : (ws.erase f).length = ws.length - 1 := List.length_erase_of_mem hm
        have lw : 0 < ws.length := List.length_pos_of_mem hm
        simp only [t1, x0, ob_some, Bool.not_true, Bool.false_eq_true, if_false]
        refine ⟨by rw [List.length_map]; exact szM (by omega), ?_⟩
        simp only [sRem, dC, dV, dB, dO2, ob_some, dT, dAndT, dOrT, dNotT, dIf, dAndV, dOrV, dNotV, dChain, aNil, aCons, dTup, dLst, dCut, oNone, oSome, dRev, dNeg, dTru, dCa, dIs, dIsA, dCall, dCallK, sNil, sSeq, sNever, sBrk, sCont, sIf, sRet, sRetO, sRetE, sSet, sSetO, sDrop, sPar, sPar3, kn, enOf, owD, sAsg, gNm, gsNil, gsCons, gTp, sApp, sIns, sExt, sClr, sRev, sPut, sFrz, owAt, fin, st, iRng, iRngB, iSeq, lstD, tupD, sFor, dLc, dDc, wipeE, tYesD, dIndex, dSort, dDictZip, dMeth, dFld, dMk, List.map_cons, List.map_nil, List.length_cons, List.length_nil, List.replicate_succ, List.replicate_zero, List.cons_append, List.nil_append, List.append_nil, List.getElem?_cons_zero, List.getElem?_cons_succ, List.set_cons_zero, List.set_cons_succ, Option.bind_some, Option.map_some, Nat.reduceSub, Nat.reduceAdd, kwP, List.getD_cons_zero, List.getD_cons_succ, x1]
        refine ⟨ws, strs_map ws, hm, .inl (comp_filter pairD pairD (fun p : SP => !(decide (p.1 = f))) qs [] (fun p hp Q Z h1 h2 => ?_) (by simp; omega) ?_)⟩
        · simp only [pairD, dC, dV, dB, dO2, ob_some, dT, dAndT, dOrT, dNotT, dIf, dAndV, dOrV, dNotV, dChain, aNil, aCons, dTup, dLst, dCut, oNone, oSome, dRev, dNeg, dTru, dCa, dIs, dIsA, dCall, dCallK, sNil, sSeq, sNever, sBrk, sCont, sIf, sRet, sRetO, sRetE, sSet, sSetO, sDrop, sPar, sPar3, kn, enOf, owD, sAsg, gNm, gsNil, gsCons, gTp, sApp, sIns, sExt, sClr, sRev, sPut, sFrz, owAt, fin, st, iRng, iRngB, iSeq, lstD, tupD, sFor, dLc, dDc, wipeE, tYesD, dIndex, dSort, dDictZip, dMeth, dFld, dMk, List.map_cons, List.map_nil, List.length_cons, List.length_nil, List.replicate_succ, List.replicate_zero, List.cons_append, List.nil_append, List.append_nil, List.getElem?_cons_zero, List.getElem?_cons_succ, List.set_cons_zero, List.set_cons_succ, Option.bind_some, Option.map_some, Nat.reduceSub, Nat.reduceAdd, kwP, List.getD_cons_zero, List.getD_cons_succ, x1]
          refine ⟨trivial, trivial, beq_ob (n := 0) (by decide) (name_ok (nq p hp)) (name_ok (nw f hm)) (fun h => ?_) (fun h => ?_)⟩
          · have : p.1 = f := D.str.inj h
            rw [decide_eq_true this] at h2
            exact h2 rfl
          · have : p.1 ≠ f := fun z => h (by rw [z])
            rw [decide_eq_false this] at h1
            exact ⟨by decide, h1 rfl⟩
        · rw [List.nil_append]
          refine ⟨ws.length - 1, by omega, k, ws.erase f, qs.filter (fun p => !(decide (p.1 = f))), acc ++ [f], _, _, _, _, _, by rw [List.map_append]; rfl, ?_, by omega, le.symm, by rw [List.length_append]; simp; omega, Nat.le_trans (List.length_filter_le _ _) hql, fun z hz => nw z (List.mem_of_mem_erase hz), fun p hp => nq p (List.mem_filter.mp hp).1⟩
          rw [List.append_assoc]
          exact hse
def sp_least_keeping : DSp := fun ds P => ∃ zs e ps, ds = [.lst (zs.map D.str), e] ∧ IsPrs e ps ∧ zs.length < 64 ∧ ps.length ≤ 100000 ∧ (∀ z ∈ zs, NameOk z) ∧ (∀ p ∈ ps, p.1 ∈ zs ∧ p.2 ∈ zs ∧ p.1 ≠ p.2) ∧ ∀ ys, SortS zs ys → (settle (zs.length + 1) ys ps).length = zs.length ∧ P (.lst ((settle (zs.length + 1) ys ps).map D.str))
def d_least_keeping : TDS := (sSeq (sDrop (dCall sp_check_wish (aCons (dV 0) (aCons (dV 1) aNil))))
  (sSeq (sSetO 2 (dCall sp_settled (aCons (dV 0) (aCons (dV 1) aNil))))
  (sSeq (sIf (dT (dO2 bLt (dCa lenD (aCons (dB 2) aNil)) (dCa lenD (aCons (dV 0) aNil)))) sNever sNil)
  (sRetO 2))))
theorem rd_least_keeping {ds : List D} {P : D → Prop} (h : sp_least_keeping ds P) : d_least_keeping (fin true P) (st 3 ds) := by
  obtain ⟨zs, e, ps, rfl, he, lz, lp, nm, np, q⟩ := h
  simp only [d_least_keeping, dC, dV, dB, dO2, ob_some, dT, dAndT, dOrT, dNotT, dIf, dAndV, dOrV, dNotV, dChain, aNil, aCons, dTup, dLst, dCut, oNone, oSome, dRev, dNeg, dTru, dCa, dIs, dIsA, dCall, dCallK, sNil, sSeq, sNever, sBrk, sCont, sIf, sRet, sRetO, sRetE, sSet, sSetO, sDrop, sPar, sPar3, kn, enOf, owD, sAsg, gNm, gsNil, gsCons, gTp, sApp, sIns, sExt, sClr, sRev, sPut, sFrz, owAt, fin, st, iRng, iRngB, iSeq, lstD, tupD, sFor, dLc, dDc, wipeE, tYesD, dIndex, dSort, dDictZip, dMeth, dFld, dMk, List.map_cons, List.map_nil, List.length_cons, List.length_nil, List.replicate_succ, List.replicate_zero, List.cons_append, List.nil_append, List.append_nil, List.getElem?_cons_zero, List.getElem?_cons_succ, List.set_cons_zero, List.set_cons_succ, Option.bind_some, Option.map_some, Nat.reduceSub, Nat.reduceAdd, kwP, List.getD_cons_zero, List.getD_cons_succ]
  refine ⟨_, zs, e, ps, rfl, .inl rfl, he, by omega, lp, np, nm, zs, e, ps, rfl, he, lz, lp, nm, fun p hp => nm _ (np p hp).1, fun ys hs => ?_⟩
  obtain ⟨h1, h2⟩ := q ys hs
  have l1 : lenD [.lst ((settle (zs.length + 1) ys ps).map D.str)] = some (.int zs.length) := by rw [len_strs (.inl rfl), h1]
  have l2 : lenD [.lst (zs.map D.str)] = some (.int zs.length) := len_strs (.inl rfl)
  simp only [dC, dV, dB, dO2, ob_some, dT, dAndT, dOrT, dNotT, dIf, dAndV, dOrV, dNotV, dChain, aNil, aCons, dTup, dLst, dCut, oNone, oSome, dRev, dNeg, dTru, dCa, dIs, dIsA, dCall, dCallK, sNil, sSeq, sNever, sBrk, sCont, sIf, sRet, sRetO, sRetE, sSet, sSetO, sDrop, sPar, sPar3, kn, enOf, owD, sAsg, gNm, gsNil, gsCons, gTp, sApp, sIns, sExt, sClr, sRev, sPut, sFrz, owAt, fin, st, iRng, iRngB, iSeq, lstD, tupD, sFor, dLc, dDc, wipeE, tYesD, dIndex, dSort, dDictZip, dMeth, dFld, dMk, List.map_cons, List.map_nil, List.length_cons, List.length_nil, List.replicate_succ, List.replicate_zero, List.cons_append, List.nil_append, List.append_nil, List.getElem?_cons_zero, List.getElem?_cons_succ, List.set_cons_zero, List.set_cons_succ, Option.bind_some, Option.map_some, Nat.reduceSub, Nat.reduceAdd, kwP, List.getD_cons_zero, List.getD_cons_succ, l1, l2, bLt_i, Int.lt_irrefl, decide_false, Bool.false_eq_true, if_false]
  exact h2
def sp_least_order (C : Addr) : DSp := fun ds P => ∃ us d zs, ds = [deskD C us, d] ∧ IsSeq d zs ∧ us.length ≤ 24 ∧ WOk us ∧ SortW us ∧ zs.Perm (nms us) ∧ (∀ p ∈ wsh us zs, p.1 ≠ p.2) ∧ (settle (us.length + 1) (nms us) (wsh us zs)).length = us.length ∧ P (.lst ((settle (us.length + 1) (nms us) (wsh us zs)).map D.str))
def d_least_order (C_Desk : Addr) : TDS := (sRet (dCall sp_least_keeping (aCons (dMeth C_Desk "names" (sp_Desk_names C_Desk) (dV 0) aNil) (aCons (dCall (sp_wish_of C_Desk) (aCons (dV 0) (aCons (dV 1) aNil))) aNil))))
theorem rd_least_order {C : Addr} {ds : List D} {P : D → Prop} (h : sp_least_order C ds P) : d_least_order C (fin true P) (st 2 ds) := by
  obtain ⟨us, d, zs, rfl, hd, hl, W, su, hp, ne, hlen, q⟩ := h
  have hn : (("names" : Str) == ("windows" : Str)) = false := by decide +kernel
  have nl : (nms us).length = us.length := List.length_map _
  simp only [d_least_order, dC, dV, dB, dO2, ob_some, dT, dAndT, dOrT, dNotT, dIf, dAndV, dOrV, dNotV, dChain, aNil, aCons, dTup, dLst, dCut, oNone, oSome, dRev, dNeg, dTru, dCa, dIs, dIsA, dCall, dCallK, sNil, sSeq, sNever, sBrk, sCont, sIf, sRet, sRetO, sRetE, sSet, sSetO, sDrop, sPar, sPar3, kn, enOf, owD, sAsg, gNm, gsNil, gsCons, gTp, sApp, sIns, sExt, sClr, sRev, sPut, sFrz, owAt, fin, st, iRng, iRngB, iSeq, lstD, tupD, sFor, dLc, dDc, wipeE, tYesD, dIndex, dSort, dDictZip, dMeth, dFld, dMk, List.map_cons, List.map_nil, List.length_cons, List.length_nil, List.replicate_succ, List.replicate_zero, List.cons_append, List.nil_append, List.append_nil, List.getElem?_cons_zero, List.getElem?_cons_succ, List.set_cons_zero, List.set_cons_succ, Option.bind_some, Option.map_some, Nat.reduceSub, Nat.reduceAdd, kwP, List.getD_cons_zero, List.getD_cons_succ, deskD, no_m hn]
  refine ⟨trivial, trivial, us, rfl, us, d, zs, rfl, hd, hl, W.nd, hp, nms us, _, wsh us zs, rfl, .inl rfl, by omega, by have := wsh_len zs hl; omega, fun z hz => ?_, fun p hp' => ⟨(wsh_mem hp').1, (wsh_mem hp').2, ne p hp'⟩, fun ys hs => ?_⟩
  · obtain ⟨w, hw, rfl⟩ := List.mem_map.mp hz
    exact W.nm w hw
  · have ey : ys = nms us := sorted_one hs.1 (sorted_of hs.2) su
    rw [ey, nl]
    exact ⟨hlen, q⟩
theorem ln_least_keeping {ds : List D} {P : D → Prop} (h : sp_least_keeping ds P) : ds.length = 2 := by obtain ⟨_, _, _, rfl, _⟩ := h; rfl
theorem ln_least_order {C : Addr} {ds : List D} {P : D → Prop} (h : sp_least_order C ds P) : ds.length = 2 := by obtain ⟨_, _, _, rfl, _⟩ := h; rfl
theorem ln_is_pair {ds : List D} {P : D → Prop} (h : sp_is_pair ds P) : ds.length = 2 := by obtain ⟨_, _, _, rfl, _⟩ := h; rfl
theorem ln_check_wish {ds : List D} {P : D → Prop} (h : sp_check_wish ds P) : ds.length = 2 := by obtain ⟨_, _, _, _, rfl, _⟩ := h; rfl
theorem ln_settled {ds : List D} {P : D → Prop} (h : sp_settled ds P) : ds.length = 2 := by obtain ⟨_, _, _, rfl, _⟩ := h; rfl
end DL
namespace DL
open PySem PySem.Spec PyProof.Rows L2 RK
theorem ixS_inj : ∀ {l : List Str} {a b : Str}, a ∈ l → b ∈ l → ixS l a = ixS l b → a = b
  | [], _, _, h, _, _ => by cases h
  | y :: r, a, b, ha, hb, e => by
    rw [ixS, ixS] at e
    by_cases h1 : y = a
    · by_cases h2 : y = b
      · rw [← h1, ← h2]
      · rw [if_pos h1, if_neg h2] at e
        omega
    · by_cases h2 : y = b
      · rw [if_neg h1, if_pos h2] at e
        omega
      · rw [if_neg h1, if_neg h2] at e
        exact ixS_inj ((List.mem_cons.mp ha).resolve_left fun z => h1 z.symm) ((List.mem_cons.mp hb).resolve_left fun z => h2 z.symm) (by omega)
theorem prs_ne {ov : Str → Str → Bool} : ∀ {l : List Str}, l.Nodup → ∀ p ∈ prs ov l, p.1 ≠ p.2
  | [], _, p, h => by cases h
  | n :: r, nd, p, h => by
    have nd' := List.nodup_cons.mp nd
    rw [prs] at h
    rcases List.mem_append.mp h with h | h
    · obtain ⟨m, hm, rfl⟩ := List.mem_map.mp h
      exact fun z => nd'.1 (by rw [show n = m from z]; exact (List.mem_filter.mp hm).1)
    · exact prs_ne nd'.2 p h
def Keeps (cs : List SP) (p : List Str) : Prop := ∀ c ∈ cs, ixS p c.1 < ixS p c.2
theorem ori_lt {p : List Str} {q : SP} (h1 : q.1 ∈ p) (h2 : q.2 ∈ p) (ne : q.1 ≠ q.2) : ixS p (ori p q).1 < ixS p (ori p q).2 := by
  unfold ori
  by_cases c : ixS p q.1 < ixS p q.2
  · rw [if_pos c]; exact c
  · rw [if_neg c]
    show ixS p q.2 < ixS p q.1
    have : ixS p q.1 ≠ ixS p q.2 := fun z => ne (ixS_inj h1 h2 z)
    omega
theorem wsh_ne {us : List Win} {zs : List Str} (nd : (nms us).Nodup) : ∀ p ∈ wsh us zs, p.1 ≠ p.2 := fun p hp => by
  obtain ⟨q, hq, rfl⟩ := List.mem_map.mp ((srtP_perm _).mem_iff.mp hp)
  have := prs_ne nd q hq
  unfold ori
  by_cases c : ixS zs q.1 < ixS zs q.2
  · rw [if_pos c]; exact this
  · rw [if_neg c]; exact fun z => this z.symm
theorem keeps_own {us : List Win} {p : List Str} (nd : (nms us).Nodup) (hp : p.Perm (nms us)) : Keeps (wsh us p) p := fun c hc => by
  obtain ⟨q, hq, rfl⟩ := List.mem_map.mp ((srtP_perm _).mem_iff.mp hc)
  have m := prs_mem _ _ q hq
  exact ori_lt (hp.mem_iff.mpr m.1) (hp.mem_iff.mpr m.2) (prs_ne nd q hq)
theorem wsh_iff {us : List Win} {zs p : List Str} (nd : (nms us).Nodup) (hp : p.Perm (nms us)) : wsh us p = wsh us zs ↔ Keeps (wsh us zs) p := by
  constructor
  · intro e
    rw [← e]
    exact keeps_own nd hp
  · intro k
    unfold wsh
    refine congrArg srtP (List.map_congr_left fun q hq => ?_)
    have hc : ori zs q ∈ wsh us zs := (srtP_perm _).mem_iff.mpr (List.mem_map.mpr ⟨q, hq, rfl⟩)
    have h1 := k _ hc
    unfold ori at h1 ⊢
    by_cases c : ixS zs q.1 < ixS zs q.2
    · rw [if_pos c] at h1 ⊢
      rw [if_pos h1]
    · rw [if_neg c] at h1 ⊢
      have h2 : ixS p q.2 < ixS p q.1 := h1
      rw [if_neg (by omega)]
theorem ixS_left : ∀ {b t : List Str} {a : Str}, a ∈ b → ixS (b ++ t) a = ixS b a ∧ ixS b a < b.length
  | [], _, _, h => by cases h
  | y :: r, t, a, h => by
    show ixS (y :: (r ++ t)) a = _ ∧ _
    rw [ixS, ixS]
    by_cases e : y = a
    · rw [if_pos e, if_pos e]
      exact ⟨rfl, by simp⟩
    · rw [if_neg e, if_neg e]
      obtain ⟨h1, h2⟩ := ixS_left (t := t) ((List.mem_cons.mp h).resolve_left fun z => e z.symm)
      exact ⟨by rw [h1], by simp; omega⟩
theorem ixS_right : ∀ {b t : List Str} {a : Str}, a ∉ b → ixS (b ++ t) a = b.length + ixS t a
  | [], t, a, _ => by simp
  | y :: r, t, a, h => by
    show ixS (y :: (r ++ t)) a = _
    have e : y ≠ a := fun z => h (by rw [z]; exact List.mem_cons_self)
    rw [ixS, if_neg e, ixS_right fun z => h (List.mem_cons_of_mem _ z), List.length_cons]
    omega
theorem ixS_erase : ∀ {t : List Str} {f a c : Str}, a ≠ f → c ≠ f → ixS t a < ixS t c → ixS (t.erase f) a < ixS (t.erase f) c
  | [], _, _, _, _, _, h => h
  | y :: r, f, a, c, ha, hc, h => by
    rw [ixS, ixS] at h
    by_cases ey : y = f
    · subst ey
      rw [List.erase_cons_head]
      rw [if_neg (fun z => ha z.symm), if_neg (fun z => hc z.symm)] at h
      omega
    · rw [List.erase_cons_tail (by simpa using ey), ixS, ixS]
      by_cases ec : y = c
      · rw [if_pos ec] at h
        omega
      · by_cases ea : y = a
        · rw [if_pos ea, if_neg ec]
          omega
        · rw [if_neg ea, if_neg ec] at h ⊢
          have := ixS_erase (t := r) ha hc (by omega)
          omega
def ext (ns : List Str) : Nat → List Str → List (List Str)
  | 0, b => [b]
  | k + 1, b => (ns.filter fun n => !(decide (n ∈ b))).flatMap fun n => ext ns k (b ++ [n])
theorem ext_mem (ns : List Str) : ∀ (k : Nat) (b p : List Str), p ∈ ext ns k b → ∃ t, p = b ++ t
  | 0, b, p, h => ⟨[], by rw [ext, List.mem_singleton] at h; rw [h, List.append_nil]⟩
  | k + 1, b, p, h => by
    rw [ext, List.mem_flatMap] at h
    obtain ⟨n, _, h⟩ := h
    obtain ⟨t, rfl⟩ := ext_mem ns k (b ++ [n]) p h
    exact ⟨n :: t, by rw [List.append_assoc]; rfl⟩
instance (cs : List SP) (p : List Str) : Decidable (Keeps cs p) := inferInstanceAs (Decidable (∀ c ∈ cs, _))
def left (cs : List SP) (b : List Str) : List SP := cs.filter fun c => !(decide (c.1 ∈ b))
def rest (ns b : List Str) : List Str := ns.filter fun n => !(decide (n ∈ b))
theorem rest_mem {ns b : List Str} {z : Str} : z ∈ rest ns b ↔ z ∈ ns ∧ z ∉ b := by
  unfold rest
  rw [List.mem_filter]
  simp
theorem left_mem {cs : List SP} {b : List Str} {c : SP} : c ∈ left cs b ↔ c ∈ cs ∧ c.1 ∉ b := by
  unfold left
  rw [List.mem_filter]
  simp
theorem left_step (cs : List SP) (b : List Str) (f : Str) : (left cs b).filter (fun p => !(decide (p.1 = f))) = left cs (b ++ [f]) := by
  unfold left
  rw [List.filter_filter]
  refine List.filter_congr fun c _ => ?_
  by_cases h1 : c.1 = f <;> by_cases h2 : c.1 ∈ b <;> simp [h1, h2]
theorem rest_step {ns : List Str} (nd : ns.Nodup) (b : List Str) (f : Str) : (rest ns b).erase f = rest ns (b ++ [f]) := by
  have nd2 : (rest ns b).Nodup := nd.filter _
  rw [nd2.erase_eq_filter]
  unfold rest
  rw [List.filter_filter]
  refine List.filter_congr fun c _ => ?_
  by_cases h1 : c = f <;> by_cases h2 : c ∈ b <;> simp [h1, h2]
theorem free_iff {cs : List SP} {ns b : List Str} {z : Str} : z ∈ frees (rest ns b) (left cs b) ↔ z ∈ rest ns b ∧ ∀ c ∈ cs, c.2 = z → c.1 ∈ b := by
  unfold frees
  rw [List.mem_filter]
  refine and_congr_right fun _ => ?_
  rw [Bool.not_eq_true', decide_eq_false_iff_not]
  constructor
  · intro h c hc e
    rcases Classical.em (c.1 ∈ b) with q | q
    · exact q
    · exact (h (List.mem_map.mpr ⟨c, left_mem.mpr ⟨hc, q⟩, e⟩)).elim
  · intro h hm
    obtain ⟨c, hc, e⟩ := List.mem_map.mp hm
    obtain ⟨h1, h2⟩ := left_mem.mp hc
    exact h2 (h c h1 e)
theorem first_keeps {ns : List Str} (nd : ns.Nodup) {cs : List SP} : ∀ (k : Nat) (b : List Str), (rest ns b).length = k → (∃ t, t.Perm (rest ns b) ∧ Keeps cs (b ++ t)) →
    (ext ns k b).find? (fun p => decide (Keeps cs p)) = some (b ++ settle (k + 1) (rest ns b) (left cs b)) ∧ (settle (k + 1) (rest ns b) (left cs b)).length = k
  | 0, b, hl, ⟨t, ht, hk⟩ => by
    have e : rest ns b = [] := List.eq_nil_of_length_eq_zero hl
    rw [e] at ht
    have et : t = [] := ht.eq_nil
    subst et
    rw [List.append_nil] at hk
    have es : settle 1 (rest ns b) (left cs b) = [] := by rw [e]; rfl
    refine ⟨?_, by rw [es]; rfl⟩
    rw [es, List.append_nil, ext, List.find?_cons, decide_eq_true hk]
  | k + 1, b, hl, ⟨t, ht, hk⟩ => by
    have nb : ∀ z ∈ rest ns b, z ∉ b := fun z hz => (rest_mem.mp hz).2
    obtain ⟨x, t', rfl⟩ : ∃ x t', t = x :: t' := by
      cases t with
      | nil => rw [← ht.length_eq] at hl; cases hl
      | cons x t' => exact ⟨x, t', rfl⟩
    have hx : x ∈ frees (rest ns b) (left cs b) := by
      have xr : x ∈ rest ns b := ht.mem_iff.mp List.mem_cons_self
      refine free_iff.mpr ⟨xr, fun c hc e => ?_⟩
      rcases Classical.em (c.1 ∈ b) with q | q
      · exact q
      · have h := hk c hc
        rw [e, ixS_right q, ixS_right (nb x xr), ixS, ixS, if_pos rfl] at h
        omega
    cases hf : frees (rest ns b) (left cs b) with
    | nil => rw [hf] at hx; cases hx
    | cons f fr =>
      have ff := free_iff.mp (show f ∈ frees (rest ns b) (left cs b) by rw [hf]; exact List.mem_cons_self)
      have fb := nb f ff.1
      have er := rest_step nd b f
      have lr : (rest ns (b ++ [f])).length = k := by
        rw [← er, List.length_erase_of_mem ff.1, hl]
        rfl
      have hk2 : Keeps cs ((b ++ [f]) ++ (x :: t').erase f) := fun c hc => by
        have h := hk c hc
        rw [List.append_assoc]
        show ixS (b ++ f :: (x :: t').erase f) c.1 < ixS (b ++ f :: (x :: t').erase f) c.2
        rcases Classical.em (c.1 ∈ b) with q | q
        · rcases Classical.em (c.2 ∈ b) with r | r
          · rw [(ixS_left q).1, (ixS_left r).1] at h ⊢
            exact h
          · rw [ixS_right r, (ixS_left q).1]
            have := (ixS_left (t := []) q).2
            omega
        · have r : c.2 ∉ b := fun r => by
            rw [ixS_right q, (ixS_left r).1] at h
            have := (ixS_left (t := []) r).2
            omega
          have nf : c.2 ≠ f := fun z => q (ff.2 c hc z)
          rw [ixS_right q, ixS_right r] at h ⊢
          have e2 : ixS (f :: (x :: t').erase f) c.2 = ixS ((x :: t').erase f) c.2 + 1 := by rw [ixS, if_neg fun z => nf z.symm]
          rw [e2]
          by_cases c1 : c.1 = f
          · rw [show ixS (f :: (x :: t').erase f) c.1 = 0 by rw [ixS, if_pos c1.symm]]
            omega
          · have e1 : ixS (f :: (x :: t').erase f) c.1 = ixS ((x :: t').erase f) c.1 + 1 := by rw [ixS, if_neg fun z => c1 z.symm]
            have := ixS_erase (t := x :: t') (f := f) c1 nf (by omega)
            rw [e1]
            omega
      obtain ⟨i1, i2⟩ := first_keeps nd k (b ++ [f]) lr ⟨(x :: t').erase f, by rw [← er]; exact ht.erase f, hk2⟩
      have es : settle (k + 2) (rest ns b) (left cs b) = f :: settle (k + 1) (rest ns (b ++ [f])) (left cs (b ++ [f])) := by
        rw [settle, hf]
        show f :: settle (k + 1) ((rest ns b).erase f) _ = _
        rw [er, left_step]
      refine ⟨?_, by rw [es, List.length_cons, i2]⟩
      obtain ⟨l1, l2, e0, n1, _, _⟩ := List.filter_eq_cons_iff.mp (show (rest ns b).filter (fun z => !(decide (z ∈ (left cs b).map (·.2)))) = f :: fr from hf)
      have eext : ext ns (k + 1) b = (rest ns b).flatMap fun n => ext ns k (b ++ [n]) := rfl
      rw [show settle (k + 1 + 1) (rest ns b) (left cs b) = _ from es, eext, e0, List.flatMap_append, List.flatMap_cons, List.find?_append, List.find?_append, i1]
      have none1 : (l1.flatMap fun n => ext ns k (b ++ [n])).find? (fun p => decide (Keeps cs p)) = none := by
        rw [List.find?_eq_none]
        intro p hp hd
        have kp : Keeps cs p := of_decide_eq_true hd
        obtain ⟨m, hm, hp⟩ := List.mem_flatMap.mp hp
        obtain ⟨s, rfl⟩ := ext_mem ns k _ p hp
        have mr : m ∈ rest ns b := by rw [e0]; exact List.mem_append_left _ hm
        have nm := n1 m hm
        simp only [Bool.not_eq_true', decide_eq_false_iff_not, Classical.not_not] at nm
        obtain ⟨c, hc, e⟩ := List.mem_map.mp nm
        obtain ⟨h1, h2⟩ := left_mem.mp hc
        have h := kp c h1
        rw [List.append_assoc, show c.2 = m from e, ixS_right h2, ixS_right (nb m mr)] at h
        rw [show ixS ([m] ++ s) m = 0 by show ixS (m :: s) m = 0; rw [ixS, if_pos rfl]] at h
        omega
      rw [none1]
      show some _ = some _
      rw [List.append_assoc]
      rfl
end DL
namespace DL
open PySem PySem.Spec PyProof.Rows L2 RK
inductive Sc where
  | mv (up : Bool) (ns : List Str)
  | pl (n : Str) (r : R)
  | rp (c : Int) (ss : List Sc)
def Sc.word : Sc → Str
  | .mv true _ => "raise"
  | .mv false _ => "lower"
  | .pl _ _ => "place"
  | .rp _ _ => "repeat"
mutual
def Sc.d : Sc → D
  | .mv true ns => .tup [.str "raise", .lst (ns.map D.str)]
  | .mv false ns => .tup [.str "lower", .lst (ns.map D.str)]
  | .pl n r => .tup [.str "place", .str n, rectD r]
  | .rp c ss => .tup [.str "repeat", .int c, .lst (Sc.ds ss)]
def Sc.ds : List Sc → List D
  | [] => []
  | s :: ss => s.d :: Sc.ds ss
end
theorem Sc.items (s : Sc) : ∃ xs, s.d = .tup (.str s.word :: xs) := by
  cases s with
  | mv up ns => cases up <;> exact ⟨_, by rw [Sc.d]; rfl⟩
  | pl n r => exact ⟨_, by rw [Sc.d]; rfl⟩
  | rp c ss => exact ⟨_, by rw [Sc.d]; rfl⟩
def Sc.isRp : Sc → Bool
  | .rp _ _ => true
  | _ => false
end DL
namespace DL
open PySem PySem.Spec PyProof.Rows L2 RK
inductive Dp : Nat → Sc → Prop
  | mv {n : Nat} {up : Bool} {ns : List Str} : Dp n (.mv up ns)
  | pl {n : Nat} {x : Str} {r : R} : Dp n (.pl x r)
  | rp {n : Nat} {c : Int} {ss : List Sc} : (∀ s ∈ ss, Dp n s) → Dp (n + 1) (.rp c ss)
theorem Dp.up {n : Nat} {s : Sc} (h : Dp n s) : Dp (n + 1) s := by
  induction h with
  | mv => exact .mv
  | pl => exact .pl
  | rp _ ih => exact .rp ih
mutual
def Sc.sz : Sc → Nat
  | .mv _ _ => 1
  | .pl _ _ => 1
  | .rp _ ss => 1 + Sc.szs ss
def Sc.szs : List Sc → Nat
  | [] => 0
  | s :: ss => s.sz + Sc.szs ss
end
end DL
namespace DL
open PySem PySem.Spec PyProof.Rows L2 RK
def RtM (nm ns : List Str) : Prop := ns ≠ [] ∧ ns.Nodup ∧ (∀ n ∈ ns, n ∈ nm) ∧ ns.length ≤ 1000
inductive Rt (nm : List Str) : Sc → Prop
  | mv {up : Bool} {ns : List Str} : RtM nm ns → Rt nm (.mv up ns)
  | pl {n : Str} {r : R} : n ∈ nm → r.good → Rt nm (.pl n r)
  | rp {c : Int} {ss : List Sc} : 0 ≤ c → c ≤ 1000000000000000000 → ss.length ≤ 100000 → (∀ s ∈ ss, Rt nm s) → Rt nm (.rp c ss)
end DL
namespace DL
open PySem PySem.Spec PyProof.Rows L2 RK
mutual
def Sc.fl : Sc → List Sc
  | .mv up ns => [.mv up ns]
  | .pl n r => [.pl n r]
  | .rp c ss => if c = 0 then [] else Sc.fls ss
def Sc.fls : List Sc → List Sc
  | [] => []
  | s :: ss => s.fl ++ Sc.fls ss
end
mutual
theorem fl_len : ∀ s : Sc, s.fl.length ≤ s.sz
  | .mv up ns => by rw [Sc.fl, Sc.sz]; exact Nat.le_refl _
  | .pl n r => by rw [Sc.fl, Sc.sz]; exact Nat.le_refl _
  | .rp c ss => by
    rw [Sc.fl, Sc.sz]
    have := fls_len ss
    split
    · simp
    · omega
theorem fls_len : ∀ ss : List Sc, (Sc.fls ss).length ≤ Sc.szs ss
  | [] => by rw [Sc.fls, Sc.szs]; exact Nat.le_refl _
  | s :: ss => by
    rw [Sc.fls, Sc.szs, List.length_append]
    have := fl_len s
    have := fls_len ss
    omega
end
end DL
namespace DL
open PySem PySem.Spec PyProof.Rows L2 RK
def plW (us : List Win) (n : Str) (r : R) : List Win := us.map fun w => if w.1 = n then (n, r) else w
theorem nms_pl (us : List Win) (n : Str) (r : R) : nms (plW us n r) = nms us := by
  unfold nms plW
  rw [List.map_map]
  refine List.map_congr_left fun w _ => ?_
  show (if w.1 = n then (n, r) else w).1 = w.1
  by_cases h : w.1 = n
  · rw [if_pos h]; exact h.symm
  · rw [if_neg h]
theorem pl_ok {us : List Win} (W : WOk us) {n : Str} {r : R} (g : r.good) (hn : n ∈ nms us) : WOk (plW us n r) := by
  refine ⟨by rw [nms_pl]; exact W.nd, fun w hw => ?_, fun w hw => ?_⟩
  · obtain ⟨v, hv, rfl⟩ := List.mem_map.mp hw
    by_cases h : v.1 = n
    · rw [if_pos h]; rw [← h]; exact W.nm v hv
    · rw [if_neg h]; exact W.nm v hv
  · obtain ⟨v, hv, rfl⟩ := List.mem_map.mp hw
    by_cases h : v.1 = n
    · rw [if_pos h]; exact g
    · rw [if_neg h]; exact W.gd v hv
structure DkOk (us : List Win) : Prop where
  w : WOk us
  s : SortW us
  l1 : 1 ≤ us.length
  l2 : us.length ≤ 24
theorem DkOk.pl {us : List Win} (h : DkOk us) {n : Str} {r : R} (g : r.good) (hn : n ∈ nms us) : DkOk (plW us n r) :=
  ⟨pl_ok h.w g hn, by unfold SortW; rw [nms_pl]; exact h.s, by unfold plW; rw [List.length_map]; exact h.l1, by unfold plW; rw [List.length_map]; exact h.l2⟩
def stW (us : List Win) : Sc → List Win
  | .pl n r => plW us n r
  | _ => us
def aftW (us : List Win) (ps : List Sc) : List Win := ps.foldl stW us
def Plain (nm : List Str) (ps : List Sc) : Prop := ∀ s ∈ ps, s.isRp = false ∧ Rt nm s
theorem DkOk.st {us : List Win} (h : DkOk us) {s : Sc} (hp : s.isRp = false ∧ Rt (nms us) s) : DkOk (stW us s) := by
  obtain ⟨h1, h2⟩ := hp
  cases h2 with
  | mv _ => exact h
  | pl hn g => exact h.pl g hn
  | rp _ _ _ _ => cases h1
end DL
namespace DL
open PySem PySem.Spec PyProof.Rows L2 RK
def prt (s : Sc) (a b : Str) : Bool := match s with
  | .mv _ ns => decide (a ∈ ns) != decide (b ∈ ns)
  | _ => false
def pov (s : Sc) (a : Str) : Bool := match s with
  | .mv up ns => up == decide (a ∈ ns)
  | _ => false
def lastP (ps : List Sc) (a b : Str) : Option Sc := (ps.filter fun s => prt s a b).getLast?
def wordP (ps : List Sc) (a b : Str) : Str := match lastP ps a b with
  | none => "left"
  | some s => if pov s a = true then "over" else "under"
theorem plain_fl {nm : List Str} : ∀ {n : Nat} {s : Sc}, Dp n s → Rt nm s → Plain nm s.fl := by
  intro n s h
  induction h with
  | mv => intro rt t ht; rw [Sc.fl, List.mem_singleton] at ht; rw [ht]; exact ⟨rfl, rt⟩
  | pl => intro rt t ht; rw [Sc.fl, List.mem_singleton] at ht; rw [ht]; exact ⟨rfl, rt⟩
  | rp _ ih =>
    rename_i c ss _
    intro rt t ht
    rw [Sc.fl] at ht
    split at ht
    · cases ht
    · cases rt with
      | rp _ _ _ h4 =>
        have key : ∀ ts : List Sc, (∀ s ∈ ts, s ∈ ss) → t ∈ Sc.fls ts → t.isRp = false ∧ Rt nm t := by
          intro ts
          induction ts with
          | nil => intro _ h; rw [Sc.fls] at h; cases h
          | cons s ts ih2 =>
            intro hs h
            rw [Sc.fls] at h
            rcases List.mem_append.mp h with h | h
            · exact ih s (hs s List.mem_cons_self) (h4 s (hs s List.mem_cons_self)) t h
            · exact ih2 (fun x hx => hs x (List.mem_cons_of_mem _ hx)) h
        exact key ss (fun _ h => h) ht
theorem plain_fls {nm : List Str} {n : Nat} : ∀ {ss : List Sc}, (∀ s ∈ ss, Rt nm s ∧ Dp n s) → Plain nm (Sc.fls ss)
  | [], _ => fun t ht => by rw [Sc.fls] at ht; cases ht
  | s :: ss, h => fun t ht => by
    rw [Sc.fls] at ht
    rcases List.mem_append.mp ht with ht | ht
    · exact plain_fl (h s List.mem_cons_self).2 (h s List.mem_cons_self).1 t ht
    · exact plain_fls (fun x hx => h x (List.mem_cons_of_mem _ hx)) t ht
def RtS (nm : List Str) (ss : List Sc) : Prop := (∀ s ∈ ss, Rt nm s ∧ Dp 5 s) ∧ Sc.szs ss ≤ 400
theorem RtS.plain {nm : List Str} {ss : List Sc} (h : RtS nm ss) : Plain nm (Sc.fls ss) := plain_fls h.1
def effP (us : List Win) (ps : List Sc) : List SP := prs (ovl (aftW us ps)) (nms us)
end DL
namespace DL
open PySem PySem.Spec PyProof.Rows L2 RK
instance decR : DecidableEq R := fun a b => decidable_of_iff (a.l = b.l ∧ a.t = b.t ∧ a.r = b.r ∧ a.b = b.b) ⟨fun ⟨h1, h2, h3, h4⟩ => by cases a; cases b; cases h1; cases h2; cases h3; cases h4; rfl, fun h => by rw [h]; exact ⟨rfl, rfl, rfl, rfl⟩⟩
end DL
namespace DL
open PySem PySem.Spec PyProof.Rows L2 RK
def Alk (us : List Win) (a b : List Sc) : Prop := aftW us a = aftW us b ∧ ∀ p ∈ effP us a, wordP a p.1 p.2 = wordP b p.1 p.2
theorem Alk.refl (us : List Win) (a : List Sc) : Alk us a a := ⟨rfl, fun _ _ => rfl⟩
theorem Alk.trans {us : List Win} {a b c : List Sc} (h : Alk us a b) (g : Alk us b c) : Alk us a c := ⟨h.1.trans g.1, fun p hp => (h.2 p hp).trans (g.2 p (by unfold effP at hp ⊢; rw [← h.1]; exact hp))⟩
end DL
namespace DL
open PySem PySem.Spec PyProof.Rows L2 RK
end DL
namespace DL
open PySem PySem.Spec PyProof.Rows L2 RK
end DL
namespace DL
open PySem PySem.Spec PyProof.Rows L2 RK
end DL
namespace DL
open PySem PySem.Spec PyProof.Rows L2 RK
def Lk : List Str → List SP
  | a :: b :: r => (a, b) :: Lk (b :: r)
  | _ => []
end DL
namespace DL
open PySem PySem.Spec PyProof.Rows L2 RK
end DL
namespace DL
open PySem PySem.Spec PyProof.Rows L2 RK
theorem sub_restS : ∀ {xs ys : List Str}, xs.Nodup → (∀ z ∈ xs, z ∈ ys) → ∃ r, (xs ++ r).Perm ys
  | [], ys, _, _ => ⟨ys, .refl _⟩
  | x :: xs, ys, n, h => by
    have nx := (List.nodup_cons.mp n).1
    obtain ⟨r, hr⟩ := sub_restS (ys := ys.erase x) (List.nodup_cons.mp n).2 fun z hz => (List.mem_erase_of_ne (fun e : z = x => nx (by rw [← e]; exact hz))).mpr (h z (List.mem_cons_of_mem _ hz))
    exact ⟨r, (List.Perm.cons x hr).trans (List.perm_cons_erase (h x List.mem_cons_self)).symm⟩
theorem sub_permS {xs ys : List Str} (n : xs.Nodup) (h : ∀ z ∈ xs, z ∈ ys) (l : ys.length ≤ xs.length) : xs.Perm ys := by
  obtain ⟨r, hr⟩ := sub_restS n h
  have := hr.length_eq
  rw [List.length_append] at this
  have e : r = [] := List.eq_nil_of_length_eq_zero (by omega)
  rw [e, List.append_nil] at hr
  exact hr
structure Stl (ns : List Str) (cs : List SP) (F : List Str) : Prop where
  nd : F.Nodup
  sub : ∀ z ∈ F, z ∈ ns
  kp : ∀ c ∈ cs, c.2 ∈ F → c.1 ∈ F ∧ ixS F c.1 < ixS F c.2
  lo : ∀ z ∈ ns, z ∉ F → ∃ c ∈ cs, c.2 = z ∧ c.1 ∉ F
theorem settle_spec {ns : List Str} (nd : ns.Nodup) {cs : List SP} : ∀ (n : Nat) (b : List Str), (rest ns b).length < n → b.Nodup → (∀ z ∈ b, z ∈ ns) → (∀ c ∈ cs, c.2 ∈ b → c.1 ∈ b ∧ ixS b c.1 < ixS b c.2) → Stl ns cs (b ++ settle n (rest ns b) (left cs b))
  | 0, b, h, _, _, _ => absurd h (Nat.not_lt_zero _)
  | n + 1, b, hn, bn, bs, bk => by
    cases hf : frees (rest ns b) (left cs b) with
    | nil =>
      have es : settle (n + 1) (rest ns b) (left cs b) = [] := by rw [settle, hf]
      rw [es, List.append_nil]
      refine ⟨bn, bs, bk, fun z hz hb => ?_⟩
      refine Classical.byContradiction fun no => ?_
      have : z ∈ frees (rest ns b) (left cs b) := free_iff.mpr ⟨rest_mem.mpr ⟨hz, hb⟩, fun c hc e => Classical.byContradiction fun q => no ⟨c, hc, e, q⟩⟩
      rw [hf] at this
      cases this
    | cons f fr =>
      have ff := free_iff.mp (show f ∈ frees (rest ns b) (left cs b) by rw [hf]; exact List.mem_cons_self)
      obtain ⟨fn, fb⟩ := rest_mem.mp ff.1
      have es : settle (n + 1) (rest ns b) (left cs b) = f :: settle n (rest ns (b ++ [f])) (left cs (b ++ [f])) := by
        rw [settle, hf]
        show f :: settle n ((rest ns b).erase f) _ = _
        rw [rest_step nd, left_step]
      rw [es, show b ++ f :: settle n (rest ns (b ++ [f])) (left cs (b ++ [f])) = (b ++ [f]) ++ settle n (rest ns (b ++ [f])) (left cs (b ++ [f])) by rw [List.append_assoc]; rfl]
      have ln : (rest ns (b ++ [f])).length < n := by
        rw [← rest_step nd, List.length_erase_of_mem ff.1]
        have := List.length_pos_of_mem ff.1
        omega
      refine settle_spec nd n (b ++ [f]) ln ?_ ?_ fun c hc h2 => ?_
      · rw [List.nodup_append]
        refine ⟨bn, by simp, fun a ha d hd => ?_⟩
        rw [List.mem_singleton.mp hd]
        exact fun e => fb (e ▸ ha)
      · intro z hz
        rcases List.mem_append.mp hz with h | h
        · exact bs z h
        · rw [List.mem_singleton.mp h]; exact fn
      · rcases List.mem_append.mp h2 with h | h
        · obtain ⟨h3, h4⟩ := bk c hc h
          refine ⟨List.mem_append_left _ h3, ?_⟩
          rw [(ixS_left h3).1, (ixS_left h).1]
          exact h4
        · have e2 := List.mem_singleton.mp h
          have h3 := ff.2 c hc e2
          refine ⟨List.mem_append_left _ h3, ?_⟩
          rw [(ixS_left h3).1, e2, ixS_right fb]
          have := (ixS_left (t := []) h3).2
          omega
theorem settle_stl {ns : List Str} (nd : ns.Nodup) (cs : List SP) : Stl ns cs (settle (ns.length + 1) ns cs) := by
  have e0 : rest ns [] = ns := by unfold rest; simp
  have h := settle_spec nd (cs := cs) (ns.length + 1) [] (by rw [e0]; omega) (by simp) (fun z h => by cases h) (fun c _ h => by cases h)
  have e1 : rest ns [] = ns := by unfold rest; simp
  have e2 : left cs [] = cs := by unfold left; simp
  rw [e1, e2] at h
  exact h
theorem Stl.all {ns : List Str} {cs : List SP} {F : List Str} (h : Stl ns cs F) (nd : ns.Nodup) (hl : F.length = ns.length) : F.Perm ns := by
  exact sub_permS h.nd h.sub (by omega)
theorem Stl.keeps {ns : List Str} {cs : List SP} {F : List Str} (h : Stl ns cs F) (hc : ∀ c ∈ cs, c.2 ∈ F) : Keeps cs F := fun c hm => (h.kp c hm (hc c hm)).2
structure IsRing (cs : List SP) (r : List Str) : Prop where
  two : 2 ≤ r.length
  nd : r.Nodup
  lk : ∀ p ∈ Lk (r ++ r.take 1), p ∈ cs
theorem keeps_lk {cs : List SP} {o : List Str} (k : Keeps cs o) : ∀ (zs : List Str) (a : Str), (∀ p ∈ Lk (a :: zs), p ∈ cs) → zs ≠ [] → ∀ y, zs.getLast? = some y → ixS o a < ixS o y
  | [], _, _, h, _, _ => absurd rfl h
  | [b], a, h, _, y, e => by
    cases e
    exact k _ (h _ List.mem_cons_self)
  | b :: c :: zs, a, h, _, y, e => by
    have h1 : ixS o a < ixS o b := k _ (h (a, b) List.mem_cons_self)
    have h2 := keeps_lk k (c :: zs) b (fun p hp => h p (List.mem_cons_of_mem _ hp)) (by simp) y (by rw [← e]; simp [List.getLast?_cons_cons])
    omega
theorem IsRing.no {cs : List SP} {r o : List Str} (h : IsRing cs r) : ¬ Keeps cs o := fun k => by
  match r, h with
  | [], h => exact absurd h.two (by simp)
  | a :: zs, h =>
    have := keeps_lk k (zs ++ [a]) a (fun p hp => h.lk p (by simpa using hp)) (by simp) a (by simp)
    omega
end DL
namespace DL
open PySem PySem.Spec PyProof.Rows L2 RK
theorem ixS_filter {p : Str → Bool} : ∀ {l : List Str} {a b : Str}, a ∈ l → b ∈ l → p a = true → p b = true → (ixS (l.filter p) a < ixS (l.filter p) b ↔ ixS l a < ixS l b)
  | [], _, _, h, _, _, _ => by cases h
  | y :: r, a, b, ha, hb, pa, pb => by
    by_cases hy : p y = true
    · rw [List.filter_cons_of_pos hy, ixS, ixS, ixS, ixS]
      by_cases h1 : y = a
      · by_cases h2 : y = b
        · rw [if_pos h1, if_pos h2, if_pos h1, if_pos h2]
        · rw [if_pos h1, if_neg h2, if_pos h1, if_neg h2]
          omega
      · by_cases h2 : y = b
        · rw [if_neg h1, if_pos h2, if_neg h1, if_pos h2]
          omega
        · rw [if_neg h1, if_neg h2, if_neg h1, if_neg h2]
          have := ixS_filter (p := p) ((List.mem_cons.mp ha).resolve_left fun z => h1 z.symm) ((List.mem_cons.mp hb).resolve_left fun z => h2 z.symm) pa pb
          omega
    · have h1 : y ≠ a := fun z => hy (by rw [z]; exact pa)
      have h2 : y ≠ b := fun z => hy (by rw [z]; exact pb)
      rw [List.filter_cons_of_neg hy, ixS, ixS, if_neg h1, if_neg h2]
      have := ixS_filter (p := p) ((List.mem_cons.mp ha).resolve_left fun z => h1 z.symm) ((List.mem_cons.mp hb).resolve_left fun z => h2 z.symm) pa pb
      omega
end DL
namespace DL
open PySem PySem.Spec PyProof.Rows L2 RK
theorem prs_has {ov : Str → Str → Bool} (sy : ∀ a b, ov a b = ov b a) : ∀ {l : List Str} {a b : Str}, a ∈ l → b ∈ l → a ≠ b → ov a b = true → (a, b) ∈ prs ov l ∨ (b, a) ∈ prs ov l
  | [], _, _, h, _, _, _ => by cases h
  | n :: r, a, b, ha, hb, ne, o => by
    rw [prs]
    rcases List.mem_cons.mp ha with rfl | har
    · have hb := (List.mem_cons.mp hb).resolve_left fun z => ne z.symm
      exact .inl (List.mem_append_left _ (List.mem_map.mpr ⟨b, List.mem_filter.mpr ⟨hb, o⟩, rfl⟩))
    · rcases List.mem_cons.mp hb with rfl | hb'
      · exact .inr (List.mem_append_left _ (List.mem_map.mpr ⟨a, List.mem_filter.mpr ⟨har, by rw [sy]; exact o⟩, rfl⟩))
      · exact (prs_has sy har hb' ne o).imp (List.mem_append_right _) (List.mem_append_right _)
theorem ovl_cell {us : List Win} {a b : Str} {x y : Int} (ha : cov us x y a = true) (hb : cov us x y b = true) : ovl us a b = true := by
  unfold cov at ha hb
  unfold ovl
  cases ea : look us a with
  | none => rw [ea] at ha; cases ha
  | some p =>
    cases eb : look us b with
    | none => rw [eb] at hb; cases hb
    | some q =>
      rw [ea] at ha
      rw [eb] at hb
      obtain ⟨a1, a2, a3, a4⟩ := of_decide_eq_true ha
      obtain ⟨b1, b2, b3, b4⟩ := of_decide_eq_true hb
      show (decide _ && decide _) = true
      rw [Bool.and_eq_true, decide_eq_true_iff, decide_eq_true_iff]
      unfold mx mn
      refine ⟨?_, ?_⟩ <;> (split <;> split <;> omega)
theorem ovl_sy {us : List Win} (a b : Str) : ovl us a b = ovl us b a := by
  unfold ovl
  cases look us a with
  | none => cases look us b <;> rfl
  | some p =>
    cases look us b with
    | none => rfl
    | some q =>
      show (decide _ && decide _) = (decide _ && decide _)
      congr 1
      · refine decide_eq_decide.mpr ?_
        unfold mx mn
        constructor <;> (intro h; split at h <;> split at h <;> split <;> split <;> omega)
      · refine decide_eq_decide.mpr ?_
        unfold mx mn
        constructor <;> (intro h; split at h <;> split at h <;> split <;> split <;> omega)
theorem last_bef {S : List Str} {a b : Str} (nd : S.Nodup) (h : S.getLast? = some a) (hb : b ∈ S) (ne : b ≠ a) : ixS S b < ixS S a := by
  obtain ⟨l, rfl⟩ := List.getLast?_eq_some_iff.mp h
  have hbl : b ∈ l := by
    rcases List.mem_append.mp hb with z | z
    · exact z
    · exact absurd (List.mem_singleton.mp z) ne
  have hal : a ∉ l := fun z => (List.nodup_append.mp nd).2.2 a z a List.mem_cons_self rfl
  obtain ⟨e1, e2⟩ := ixS_left (t := [a]) hbl
  rw [e1, ixS_right hal]
  omega
theorem top_alike {us : List Win} {z1 z2 : List Str} (nd : (nms us).Nodup) (h1 : z1.Perm (nms us)) (h2 : z2.Perm (nms us)) (e : wsh us z1 = wsh us z2) (x y : Int) : topF us z1 x y = topF us z2 x y := by
  have n1 : z1.Nodup := h1.nodup_iff.mpr nd
  have n2 : z2.Nodup := h2.nodup_iff.mpr nd
  have mm : ∀ z, z ∈ z1.filter (cov us x y) ↔ z ∈ z2.filter (cov us x y) := fun z => by
    rw [List.mem_filter, List.mem_filter, h1.mem_iff, h2.mem_iff]
  unfold topF
  cases g1 : (z1.filter (cov us x y)).getLast? with
  | none =>
    have e0 := List.getLast?_eq_none_iff.mp g1
    have : z2.filter (cov us x y) = [] := List.eq_nil_iff_forall_not_mem.mpr fun z hz => by
      have := (mm z).mpr hz
      rw [e0] at this
      cases this
    rw [this]
    rfl
  | some a =>
    have ma : a ∈ z1.filter (cov us x y) := List.mem_of_getLast? g1
    have ma2 := (mm a).mp ma
    cases g2 : (z2.filter (cov us x y)).getLast? with
    | none =>
      have e0 := List.getLast?_eq_none_iff.mp g2
      rw [e0] at ma2
      cases ma2
    | some b =>
      have mb2 : b ∈ z2.filter (cov us x y) := List.mem_of_getLast? g2
      have mb := (mm b).mpr mb2
      by_cases hab : a = b
      · rw [hab]
      · exfalso
        have c1 := last_bef (n1.filter _) g1 mb (fun z => hab z.symm)
        have c2 := last_bef (n2.filter _) g2 ma2 hab
        obtain ⟨a1, pa⟩ := List.mem_filter.mp ma
        obtain ⟨b1, pb⟩ := List.mem_filter.mp mb
        have a2 := (List.mem_filter.mp ma2).1
        have b2 := (List.mem_filter.mp mb2).1
        have d1 := (ixS_filter b1 a1 pb pa).mp c1
        have d2 := (ixS_filter a2 b2 pa pb).mp c2
        have K := (wsh_iff nd h2).mp e.symm
        have key : ∀ q : SP, q ∈ prs (ovl us) (nms us) → (q = (a, b) ∨ q = (b, a)) → False := fun q hq hh => by
          have hc : ori z1 q ∈ wsh us z1 := (srtP_perm _).mem_iff.mpr (List.mem_map.mpr ⟨q, hq, rfl⟩)
          have kk := K _ hc
          unfold ori at kk
          rcases hh with rfl | rfl
          · rw [if_neg (show ¬ ixS z1 a < ixS z1 b by omega)] at kk
            have kk : ixS z2 b < ixS z2 a := kk
            omega
          · rw [if_pos (show ixS z1 b < ixS z1 a from d1)] at kk
            have kk : ixS z2 b < ixS z2 a := kk
            omega
        rcases prs_has ovl_sy (h1.mem_iff.mp a1) (h1.mem_iff.mp b1) hab (ovl_cell pa pb) with z | z
        · exact key _ z (.inl rfl)
        · exact key _ z (.inr rfl)
theorem cols_perm {us : List Win} {z1 z2 : List Str} (h : z1.Perm z2) : colsOf us z1 = colsOf us z2 := asc_congr fun k => by
  rw [List.mem_flatMap, List.mem_flatMap]
  exact ⟨fun ⟨z, hz, r⟩ => ⟨z, h.mem_iff.mp hz, r⟩, fun ⟨z, hz, r⟩ => ⟨z, h.mem_iff.mpr hz, r⟩⟩
theorem rows_perm {us : List Win} {z1 z2 : List Str} (h : z1.Perm z2) : rowsOf us z1 = rowsOf us z2 := asc_congr fun k => by
  rw [List.mem_flatMap, List.mem_flatMap]
  exact ⟨fun ⟨z, hz, r⟩ => ⟨z, h.mem_iff.mp hz, r⟩, fun ⟨z, hz, r⟩ => ⟨z, h.mem_iff.mpr hz, r⟩⟩
theorem tls_n {tp : Int → Int → Option Str} {ns : List Str} (h : ∀ x y n, tp x y = some n → n ∈ ns) {cols rows : List Int} {u : Tile} (hu : u ∈ tls tp cols rows) : u.n ∈ ns := by
  obtain ⟨c, _, hc⟩ := List.mem_flatMap.mp hu
  obtain ⟨r, hr, rfl⟩ := List.mem_map.mp hc
  exact fold_n (tp := fun x => tp x c.1) (fun x n e => h x c.1 n e) (prI cols) [] (fun _ z => nomatch z) r hr
theorem sh_tiles {us : List Win} {zs : List Str} (hz : ∀ z ∈ zs, NameOk z) (cols rows : List Int) : sh 3 (.lst ((tls (topF us zs) cols rows).map tileD)) = true := by
  show ((tls (topF us zs) cols rows).map tileD).all (sh 2) = true
  rw [List.all_eq_true]
  intro d hd
  obtain ⟨u, hu, rfl⟩ := List.mem_map.mp hd
  have := hz u.n (tls_n (tp := topF us zs) (fun x y n e => topF_mem e) hu)
  show (([D.int u.l, .int u.t, .int u.r, .int u.b].all (sh 0)) && (PyData.strOk u.n && true)) = true
  rw [name_ok this]
  rfl
def lst1 (us : List Win) (zs : List Str) : List Str := settle (us.length + 1) (nms us) (wsh us zs)
theorem least_ok {us : List Win} {zs : List Str} (W : WOk us) (hp : zs.Perm (nms us)) : (lst1 us zs).length = us.length ∧ (lst1 us zs).Perm (nms us) ∧ wsh us (lst1 us zs) = wsh us zs := by
  have nl : (nms us).length = us.length := List.length_map _
  have hr0 : rest (nms us) [] = nms us := by simp [rest]
  have hl0 : left (wsh us zs) [] = wsh us zs := by simp [left]
  obtain ⟨f1, f2⟩ := first_keeps W.nd (cs := wsh us zs) us.length [] (by rw [hr0, nl]) ⟨zs, by rw [hr0]; exact hp, keeps_own W.nd hp⟩
  rw [hr0, hl0] at f2
  have S := settle_stl W.nd (wsh us zs)
  rw [nl] at S
  have P := S.all W.nd (by rw [f2, nl])
  exact ⟨f2, P, (wsh_iff W.nd P).mpr (S.keeps fun c hc => P.mem_iff.mpr (wsh_mem hc).2)⟩
def odD (p : List Str) : D := .lst (p.map D.str)
def tabD (us : List Win) (os : List (List Str)) : D := .lst (os.map fun a => .lst (os.map fun b => .bl (decide (wsh us a = wsh us b))))
theorem tab_at {us : List Win} {os : List (List Str)} {i : Nat} {a : List Str} (h : os[i]? = some a) : bIx (tabD us os) (.int ((i : Nat) : Int)) = some (.lst (os.map fun b => .bl (decide (wsh us a = wsh us b)))) := bIx_l (by rw [List.getElem?_map, h]; rfl)
theorem row_at {us : List Win} {os : List (List Str)} {j : Nat} {a b : List Str} (h : os[j]? = some b) : bIx (.lst (os.map fun b => .bl (decide (wsh us a = wsh us b)))) (.int ((j : Nat) : Int)) = some (.bl (decide (wsh us a = wsh us b))) := bIx_l (by rw [List.getElem?_map, h]; rfl)
theorem ord_at {os : List (List Str)} {j : Nat} {b : List Str} (h : os[j]? = some b) : bIx (.lst (os.map odD)) (.int ((j : Nat) : Int)) = some (odD b) := bIx_l (by rw [List.getElem?_map, h]; rfl)
theorem bNe_l (x y : Bool) : bEqN true (.bl x) (.bl y) = some (.bl (true ^^ decide (x = y))) := rfl
def spD (p : Int × Int) : D := .tup [.int p.1, .int p.2]
theorem sh_top {us : List Win} {zs : List Str} (hz : ∀ z ∈ zs, NameOk z) (x y : Int) : sh 0 (match topF us zs x y with | some z => D.str z | none => .non) = true := by
  cases e : topF us zs x y with
  | none => rfl
  | some z => exact name_ok (hz z (topF_mem e))
theorem strs_inj : ∀ {a b : List Str}, a.map D.str = b.map D.str → a = b
  | [], [], _ => rfl
  | [], _ :: _, h => by cases h
  | _ :: _, [], h => by cases h
  | x :: a, y :: b, h => by
    rw [List.map_cons, List.map_cons] at h
    injection h with h1 h2
    injection h1 with h1
    rw [h1, strs_inj h2]
def d_body (C_Desk : Addr) : TDS := (sSeq (sIf (dOrT (dT (dO2 (bEqN true) (dO2 bIx (dO2 bIx (dV 7) (dV 9)) (dV 10)) (dO2 bIx (dO2 bIx (dV 7) (dV 10)) (dV 9)))) (dT (dCa anyD (aCons (dLc (iRng (aCons (dC (.int 4)) aNil)) (gNm 17) tYesD (dAndV (dO2 bIx (dO2 bIx (dV 7) (dV 9)) (dV 10)) (dAndV (dO2 bIx (dO2 bIx (dV 7) (dV 10)) (dV 17)) (dNotV (dO2 bIx (dO2 bIx (dV 7) (dV 9)) (dV 17))))) [17]) aNil)))) (sRet (dC (.bl false))) sNil)
  (sSeq (sIf (dAndT (dTru (dO2 bIx (dO2 bIx (dV 7) (dV 9)) (dV 10))) (dT (dO2 (bEqN true) (dCall (sp_tiles C_Desk) (aCons (dV 4) (aCons (dO2 bIx (dV 6) (dV 9)) aNil))) (dCall (sp_tiles C_Desk) (aCons (dV 4) (aCons (dO2 bIx (dV 6) (dV 10)) aNil)))))) (sRet (dC (.bl false))) sNil)
  (sSeq (sIf (dT (dO2 (bEqN true) (dO2 bIx (dO2 bIx (dV 7) (dV 9)) (dV 10)) (dO2 (bEqN false) (dCall (sp_least_order C_Desk) (aCons (dV 4) (aCons (dO2 bIx (dV 6) (dV 9)) aNil))) (dCall (sp_least_order C_Desk) (aCons (dV 4) (aCons (dO2 bIx (dV 6) (dV 10)) aNil)))))) (sRet (dC (.bl false))) sNil)
  (sSeq (sSet 11 (dLc (iSeq (dV 8)) (gTp 2 (gsCons (gNm 15) (gsCons (gNm 16) gsNil))) tYesD (dO2 (bEqN false) (dCall (sp_seen C_Desk) (aCons (dV 4) (aCons (dO2 bIx (dV 6) (dV 9)) (aCons (dV 15) (aCons (dV 16) aNil))))) (dCall (sp_seen C_Desk) (aCons (dV 4) (aCons (dO2 bIx (dV 6) (dV 10)) (aCons (dV 15) (aCons (dV 16) aNil)))))) [15, 16]))
  (sIf (dAndT (dTru (dO2 bIx (dO2 bIx (dV 7) (dV 9)) (dV 10))) (dNotT (dT (dCa allD (aCons (dV 11) aNil))))) (sRet (dC (.bl false))) sNil)))))
theorem rd_body {C : Addr} {us ws : List Win} {os : List (List Str)} {sp : List (Int × Int)} (W : WOk us) (SW : SortW us) (hl : us.length ≤ 24) (h4 : os.length = 4) (ho : ∀ o ∈ os, o.Perm (nms us)) (hs : sp.length = 6) {i j : Nat} (hi : i < 4) (hj : j < 4) {PP : DEnds} {e0 e1 e2 e3 e5 e11 e12 e13 e14 e15 e16 e17 : En}
    (hk : ∀ e11 e12 e13 e14 e15 e16 e17, PP.nx [e0, e1, e2, e3, .fz (deskD C us), e5, .fz (.lst (os.map odD)), .fz (tabD us os), .fz (.lst (sp.map spD)), .fz (.int (0 + (i : Nat))), .fz (.int (0 + (j : Nat))), e11, e12, e13, e14, e15, e16, e17]) :
    d_body C PP [e0, e1, e2, e3, .fz (deskD C us), e5, .fz (.lst (os.map odD)), .fz (tabD us os), .fz (.lst (sp.map spD)), .fz (.int (0 + (i : Nat))), .fz (.int (0 + (j : Nat))), e11, e12, e13, e14, e15, e16, e17] := by
  obtain ⟨a, ha⟩ : ∃ a, os[i]? = some a := ⟨_, List.getElem?_eq_getElem (by omega)⟩
  obtain ⟨b, hb⟩ : ∃ b, os[j]? = some b := ⟨_, List.getElem?_eq_getElem (by omega)⟩
  have pa := ho a (List.mem_of_getElem? ha)
  have pb := ho b (List.mem_of_getElem? hb)
  have nmu : ∀ z ∈ nms us, NameOk z := fun z hz => by
    obtain ⟨w, hw, rfl⟩ := List.mem_map.mp hz
    exact W.nm w hw
  have na : ∀ z ∈ a, NameOk z := fun z hz => nmu z (pa.mem_iff.mp hz)
  have nb : ∀ z ∈ b, NameOk z := fun z hz => nmu z (pb.mem_iff.mp hz)
  have sy : decide (wsh us b = wsh us a) = decide (wsh us a = wsh us b) := decide_eq_decide.mpr eq_comm
  have sa := least_ok W pa
  have sb := least_ok W pb
  have ta := tab_at (us := us) ha
  have tb := tab_at (us := us) hb
  have rab := row_at (us := us) (a := a) hb
  have rba := row_at (us := us) (a := b) ha
  have oa := ord_at ha
  have ob' := ord_at hb
  rw [sy] at rba
  simp only [Int.zero_add] at hk ⊢
  have ei : ∀ k : Nat, (0 : Int) + (k : Nat) = (k : Nat) := fun k => Int.zero_add _
  have nx : (true ^^ decide (decide (wsh us a = wsh us b) = decide (wsh us a = wsh us b))) = false := by simp
  generalize hRR : [e0, e1, e2, e3, .fz (deskD C us), e5, .fz (.lst (os.map odD)), .fz (tabD us os), .fz (.lst (sp.map spD)), .fz (.int ((i : Nat) : Int)), .fz (.int ((j : Nat) : Int))] = RR at hk
  simp only [d_body, dC, dV, dB, dO2, ob_some, dT, dAndT, dOrT, dNotT, dIf, dAndV, dOrV, dNotV, dChain, aNil, aCons, dTup, dLst, dCut, oNone, oSome, dRev, dNeg, dTru, dCa, dIs, dIsA, dCall, dCallK, sNil, sSeq, sNever, sBrk, sCont, sIf, sRet, sRetO, sRetE, sSet, sSetO, sDrop, sPar, sPar3, kn, enOf, owD, sAsg, gNm, gsNil, gsCons, gTp, sApp, sIns, sExt, sClr, sRev, sPut, sFrz, owAt, fin, st, iRng, iRngB, iSeq, lstD, tupD, sFor, dLc, dDc, wipeE, tYesD, dIndex, dSort, dDictZip, dMeth, dFld, dMk, List.map_cons, List.map_nil, List.length_cons, List.length_nil, List.replicate_succ, List.replicate_zero, List.cons_append, List.nil_append, List.append_nil, List.getElem?_cons_zero, List.getElem?_cons_succ, List.set_cons_zero, List.set_cons_succ, Option.bind_some, Option.map_some, Nat.reduceSub, Nat.reduceAdd, kwP, List.getD_cons_zero, List.getD_cons_succ, ta, tb, rab, rba, oa, ob', bNe_l, nx, if_false, Bool.false_eq_true]
  refine ⟨by decide, by decide, comp_map (fun k : Nat => D.int (0 + (k : Nat))) (fun _ => D.bl false) (List.range 4) [] (fun k hk4 Q Z hQ => ?_) (by simp) ?_⟩
  · obtain ⟨c, hc⟩ : ∃ c, os[k]? = some c := ⟨_, List.getElem?_eq_getElem (by rw [h4]; exact List.mem_range.mp hk4)⟩
    have rbc := row_at (us := us) (a := b) hc
    have rac := row_at (us := us) (a := a) hc
    simp only [ei, dC, dV, dB, dO2, ob_some, dT, dAndT, dOrT, dNotT, dIf, dAndV, dOrV, dNotV, dChain, aNil, aCons, dTup, dLst, dCut, oNone, oSome, dRev, dNeg, dTru, dCa, dIs, dIsA, dCall, dCallK, sNil, sSeq, sNever, sBrk, sCont, sIf, sRet, sRetO, sRetE, sSet, sSetO, sDrop, sPar, sPar3, kn, enOf, owD, sAsg, gNm, gsNil, gsCons, gTp, sApp, sIns, sExt, sClr, sRev, sPut, sFrz, owAt, fin, st, iRng, iRngB, iSeq, lstD, tupD, sFor, dLc, dDc, wipeE, tYesD, dIndex, dSort, dDictZip, dMeth, dFld, dMk, List.map_cons, List.map_nil, List.length_cons, List.length_nil, List.replicate_succ, List.replicate_zero, List.cons_append, List.nil_append, List.append_nil, List.getElem?_cons_zero, List.getElem?_cons_succ, List.set_cons_zero, List.set_cons_succ, Option.bind_some, Option.map_some, Nat.reduceSub, Nat.reduceAdd, kwP, List.getD_cons_zero, List.getD_cons_succ, ta, tb, rab, rbc, rac]
    by_cases h1 : wsh us a = wsh us b
    · by_cases h2 : wsh us b = wsh us c
      · have h3 : wsh us a = wsh us c := h1.trans h2
        simp only [decide_eq_true h1, decide_eq_true h2, decide_eq_true h3, truD, ob_some, if_true]
        exact hQ
      · simp only [decide_eq_true h1, decide_eq_false h2, truD, ob_some, if_true, if_false, Bool.false_eq_true]
        exact hQ
    · simp only [decide_eq_false h1, truD, ob_some, if_false, Bool.false_eq_true]
      exact hQ
  have an : anyD [.lst (([] : List D) ++ (List.range 4).map fun _ => D.bl false)] = some (.bl false) := rfl
  simp only [an, ob_some, if_false, Bool.false_eq_true]
  by_cases h1 : wsh us a = wsh us b
  · have hc := cols_perm (us := us) (pa.trans pb.symm)
    have hr := rows_perm (us := us) (pa.trans pb.symm)
    have ht : topF us a = topF us b := funext fun x => funext fun y => top_alike W.nd pa pb h1 x y
    have hle : lst1 us a = lst1 us b := by unfold lst1; rw [h1]
    simp only [decide_eq_true h1, truD, ob_some, if_true]
    refine ⟨us, _, a, rfl, .inl rfl, hl, W, pa, us, _, b, rfl, .inl rfl, hl, W, pb, ?_⟩
    rw [hc, hr, ht]
    refine beq_ob (n := 3) (by decide) (sh_tiles nb _ _) (sh_tiles nb _ _) (fun _ => ?_) (fun z => (z rfl).elim)
    simp only [Bool.not_true, Bool.false_eq_true, if_false]
    refine ⟨us, _, a, rfl, .inl rfl, hl, W, SW, pa, wsh_ne W.nd, sa.1, us, _, b, rfl, .inl rfl, hl, W, SW, pb, wsh_ne W.nd, sb.1, ?_⟩
    rw [show settle (us.length + 1) (nms us) (wsh us a) = settle (us.length + 1) (nms us) (wsh us b) from hle]
    have nr : ∀ z ∈ lst1 us b, NameOk z := fun z hz => nmu z (sb.2.1.mem_iff.mp hz)
    refine beq_ob (n := 2) (by decide) (sh_names nr) (sh_names nr) (fun _ => ?_) (fun z => (z rfl).elim)
    have b1 : bEqN true (.bl true) (.bl (!false)) = some (.bl false) := rfl
    simp only [b1, ob_some, Bool.false_eq_true, if_false]
    refine .inl (comp_map spD (fun _ => D.bl true) sp [] (fun p _ Q Z hQ => ?_) (by simp; omega) ?_)
    · obtain ⟨x, y⟩ := p
      simp only [spD, dC, dV, dB, dO2, ob_some, dT, dAndT, dOrT, dNotT, dIf, dAndV, dOrV, dNotV, dChain, aNil, aCons, dTup, dLst, dCut, oNone, oSome, dRev, dNeg, dTru, dCa, dIs, dIsA, dCall, dCallK, sNil, sSeq, sNever, sBrk, sCont, sIf, sRet, sRetO, sRetE, sSet, sSetO, sDrop, sPar, sPar3, kn, enOf, owD, sAsg, gNm, gsNil, gsCons, gTp, sApp, sIns, sExt, sClr, sRev, sPut, sFrz, owAt, fin, st, iRng, iRngB, iSeq, lstD, tupD, sFor, dLc, dDc, wipeE, tYesD, dIndex, dSort, dDictZip, dMeth, dFld, dMk, List.map_cons, List.map_nil, List.length_cons, List.length_nil, List.replicate_succ, List.replicate_zero, List.cons_append, List.nil_append, List.append_nil, List.getElem?_cons_zero, List.getElem?_cons_succ, List.set_cons_zero, List.set_cons_succ, Option.bind_some, Option.map_some, Nat.reduceSub, Nat.reduceAdd, kwP, List.getD_cons_zero, List.getD_cons_succ, oa, ob']
      refine ⟨trivial, trivial, us, _, a, x, y, rfl, .inl rfl, hl, W.nd, pa, us, _, b, x, y, rfl, .inl rfl, hl, W.nd, pb, ?_⟩
      rw [topF_D, topF_D, ht]
      exact beq_ob (n := 0) (by decide) (sh_top nb x y) (sh_top nb x y) (fun _ => hQ) (fun z => (z rfl).elim)
    · have al : allD [.lst (sp.map fun _ => D.bl true)] = some (.bl true) := by
        rw [allD_f sp fun _ => true]
        simp
      rw [List.nil_append]
      simp only [dC, dV, dB, dO2, ob_some, dT, dAndT, dOrT, dNotT, dIf, dAndV, dOrV, dNotV, dChain, aNil, aCons, dTup, dLst, dCut, oNone, oSome, dRev, dNeg, dTru, dCa, dIs, dIsA, dCall, dCallK, sNil, sSeq, sNever, sBrk, sCont, sIf, sRet, sRetO, sRetE, sSet, sSetO, sDrop, sPar, sPar3, kn, enOf, owD, sAsg, gNm, gsNil, gsCons, gTp, sApp, sIns, sExt, sClr, sRev, sPut, sFrz, owAt, fin, st, iRng, iRngB, iSeq, lstD, tupD, sFor, dLc, dDc, wipeE, tYesD, dIndex, dSort, dDictZip, dMeth, dFld, dMk, List.map_cons, List.map_nil, List.length_cons, List.length_nil, List.replicate_succ, List.replicate_zero, List.cons_append, List.nil_append, List.append_nil, List.getElem?_cons_zero, List.getElem?_cons_succ, List.set_cons_zero, List.set_cons_succ, Option.bind_some, Option.map_some, Nat.reduceSub, Nat.reduceAdd, kwP, List.getD_cons_zero, List.getD_cons_succ, ta, rab, decide_eq_true h1, truD, ob_some, if_true, al, Bool.not_true, Bool.false_eq_true, if_false]
      subst hRR
      exact hk _ _ _ _ _ _ _
  · have hne : lst1 us a ≠ lst1 us b := fun z => h1 (by rw [← sa.2.2, ← sb.2.2, z])
    simp only [decide_eq_false h1, truD, ob_some, if_false, Bool.false_eq_true]
    refine ⟨us, _, a, rfl, .inl rfl, hl, W, SW, pa, wsh_ne W.nd, sa.1, us, _, b, rfl, .inl rfl, hl, W, SW, pb, wsh_ne W.nd, sb.1, ?_⟩
    have nr : ∀ z ∈ lst1 us a, NameOk z := fun z hz => nmu z (sa.2.1.mem_iff.mp hz)
    have nr2 : ∀ z ∈ lst1 us b, NameOk z := fun z hz => nmu z (sb.2.1.mem_iff.mp hz)
    have nd2 : D.lst ((lst1 us a).map D.str) ≠ D.lst ((lst1 us b).map D.str) := fun z => hne (by
      injection z with z
      exact strs_inj z)
    refine beq_ob (n := 2) (by decide) (sh_names nr) (sh_names nr2) (fun z => (nd2 z).elim) (fun _ => ?_)
    have b1 : bEqN true (.bl false) (.bl false) = some (.bl false) := rfl
    simp only [b1, ob_some, Bool.false_eq_true, if_false]
    refine .inl (comp_all spD (fun _ d => ∃ b, d = D.bl b) sp [] (fun p _ Q Z hQ => ?_) (by simp; omega) fun ys _ => ?_)
    · obtain ⟨x, y⟩ := p
      simp only [spD, dC, dV, dB, dO2, ob_some, dT, dAndT, dOrT, dNotT, dIf, dAndV, dOrV, dNotV, dChain, aNil, aCons, dTup, dLst, dCut, oNone, oSome, dRev, dNeg, dTru, dCa, dIs, dIsA, dCall, dCallK, sNil, sSeq, sNever, sBrk, sCont, sIf, sRet, sRetO, sRetE, sSet, sSetO, sDrop, sPar, sPar3, kn, enOf, owD, sAsg, gNm, gsNil, gsCons, gTp, sApp, sIns, sExt, sClr, sRev, sPut, sFrz, owAt, fin, st, iRng, iRngB, iSeq, lstD, tupD, sFor, dLc, dDc, wipeE, tYesD, dIndex, dSort, dDictZip, dMeth, dFld, dMk, List.map_cons, List.map_nil, List.length_cons, List.length_nil, List.replicate_succ, List.replicate_zero, List.cons_append, List.nil_append, List.append_nil, List.getElem?_cons_zero, List.getElem?_cons_succ, List.set_cons_zero, List.set_cons_succ, Option.bind_some, Option.map_some, Nat.reduceSub, Nat.reduceAdd, kwP, List.getD_cons_zero, List.getD_cons_succ, oa, ob']
      refine ⟨trivial, trivial, us, _, a, x, y, rfl, .inl rfl, hl, W.nd, pa, us, _, b, x, y, rfl, .inl rfl, hl, W.nd, pb, ?_⟩
      rw [topF_D, topF_D]
      exact beq_ob (n := 0) (by decide) (sh_top na x y) (sh_top nb x y) (fun _ => hQ _ ⟨_, rfl⟩) (fun _ => hQ _ ⟨_, rfl⟩)
    · simp only [dC, dV, dB, dO2, ob_some, dT, dAndT, dOrT, dNotT, dIf, dAndV, dOrV, dNotV, dChain, aNil, aCons, dTup, dLst, dCut, oNone, oSome, dRev, dNeg, dTru, dCa, dIs, dIsA, dCall, dCallK, sNil, sSeq, sNever, sBrk, sCont, sIf, sRet, sRetO, sRetE, sSet, sSetO, sDrop, sPar, sPar3, kn, enOf, owD, sAsg, gNm, gsNil, gsCons, gTp, sApp, sIns, sExt, sClr, sRev, sPut, sFrz, owAt, fin, st, iRng, iRngB, iSeq, lstD, tupD, sFor, dLc, dDc, wipeE, tYesD, dIndex, dSort, dDictZip, dMeth, dFld, dMk, List.map_cons, List.map_nil, List.length_cons, List.length_nil, List.replicate_succ, List.replicate_zero, List.cons_append, List.nil_append, List.append_nil, List.getElem?_cons_zero, List.getElem?_cons_succ, List.set_cons_zero, List.set_cons_succ, Option.bind_some, Option.map_some, Nat.reduceSub, Nat.reduceAdd, kwP, List.getD_cons_zero, List.getD_cons_succ, ta, rab, decide_eq_false h1, truD, ob_some, if_true, Bool.false_eq_true, if_false]
      subst hRR
      exact hk _ _ _ _ _ _ _
theorem sort_nms {ws us : List Win} {ys : List Str} (p : us.Perm ws) (s : SortW us) (h : SortS (nms ws) ys) : ys = nms us := sorted_one (h.1.trans (p.map _).symm) (sorted_of h.2) s
def d_law (C_Desk : Addr) : TDS := (sSeq (sFor (iRng (aCons (dC (.int 2)) aNil)) (gNm 2) (sSeq (sSet 3 (dCall sp_windows (aCons (dV 1) (aCons (dC (.int 1)) (aCons (dC (.int 6)) aNil)))))
  (sSeq (sAsg (dTup (aCons (dMk C_Desk "windows" sp_Desk___init (aCons (dV 3) aNil)) (aCons (dCall sp_mixed (aCons (dV 1) (aCons (dSort (dV 3)) aNil))) aNil))) (gTp 2 (gsCons (gNm 4) (gsCons (gNm 5) gsNil))))
  (sSeq (sSet 6 (dO2 bAdd (dLst (aCons (dV 5) (aCons (dCall (sp_least_order C_Desk) (aCons (dV 4) (aCons (dV 5) aNil))) aNil))) (dLc (iRng (aCons (dC (.int 2)) aNil)) (gNm 13) tYesD (dCall sp_mixed (aCons (dV 1) (aCons (dV 5) aNil))) [13])))
  (sSeq (sSet 7 (dLc (iSeq (dV 6)) (gNm 12) tYesD (dLc (iSeq (dV 6)) (gNm 14) tYesD (dCall (sp_alike C_Desk) (aCons (dV 4) (aCons (dV 12) (aCons (dV 14) aNil)))) [14]) [12]))
  (sSeq (sSet 8 (dLc (iRng (aCons (dC (.int 6)) aNil)) (gNm 13) tYesD (dCall sp_spot (aCons (dV 1) (aCons (dV 3) aNil))) [13]))
  (sSeq (sIf (dT (dO2 (bIsB true) (dO2 bIx (dO2 bIx (dV 7) (dC (.int 0))) (dC (.int 1))) (dC (.bl true)))) (sRet (dC (.bl false))) sNil)
  (sFor (iRng (aCons (dC (.int 4)) aNil)) (gNm 9) (sFor (iRng (aCons (dC (.int 4)) aNil)) (gNm 10) (sSeq (sIf (dOrT (dT (dO2 (bEqN true) (dO2 bIx (dO2 bIx (dV 7) (dV 9)) (dV 10)) (dO2 bIx (dO2 bIx (dV 7) (dV 10)) (dV 9)))) (dT (dCa anyD (aCons (dLc (iRng (aCons (dC (.int 4)) aNil)) (gNm 17) tYesD (dAndV (dO2 bIx (dO2 bIx (dV 7) (dV 9)) (dV 10)) (dAndV (dO2 bIx (dO2 bIx (dV 7) (dV 10)) (dV 17)) (dNotV (dO2 bIx (dO2 bIx (dV 7) (dV 9)) (dV 17))))) [17]) aNil)))) (sRet (dC (.bl false))) sNil)
  (sSeq (sIf (dAndT (dTru (dO2 bIx (dO2 bIx (dV 7) (dV 9)) (dV 10))) (dT (dO2 (bEqN true) (dCall (sp_tiles C_Desk) (aCons (dV 4) (aCons (dO2 bIx (dV 6) (dV 9)) aNil))) (dCall (sp_tiles C_Desk) (aCons (dV 4) (aCons (dO2 bIx (dV 6) (dV 10)) aNil)))))) (sRet (dC (.bl false))) sNil)
  (sSeq (sIf (dT (dO2 (bEqN true) (dO2 bIx (dO2 bIx (dV 7) (dV 9)) (dV 10)) (dO2 (bEqN false) (dCall (sp_least_order C_Desk) (aCons (dV 4) (aCons (dO2 bIx (dV 6) (dV 9)) aNil))) (dCall (sp_least_order C_Desk) (aCons (dV 4) (aCons (dO2 bIx (dV 6) (dV 10)) aNil)))))) (sRet (dC (.bl false))) sNil)
  (sSeq (sSet 11 (dLc (iSeq (dV 8)) (gTp 2 (gsCons (gNm 15) (gsCons (gNm 16) gsNil))) tYesD (dO2 (bEqN false) (dCall (sp_seen C_Desk) (aCons (dV 4) (aCons (dO2 bIx (dV 6) (dV 9)) (aCons (dV 15) (aCons (dV 16) aNil))))) (dCall (sp_seen C_Desk) (aCons (dV 4) (aCons (dO2 bIx (dV 6) (dV 10)) (aCons (dV 15) (aCons (dV 16) aNil)))))) [15, 16]))
  (sIf (dAndT (dTru (dO2 bIx (dO2 bIx (dV 7) (dV 9)) (dV 10))) (dNotT (dT (dCa allD (aCons (dV 11) aNil))))) (sRet (dC (.bl false))) sNil))))))))))))))
  (sRet (dC (.bl true))))
theorem d_law_eq (C_Desk : Addr) : d_law C_Desk = (sSeq (sFor (iRng (aCons (dC (.int 2)) aNil)) (gNm 2) (sSeq (sSet 3 (dCall sp_windows (aCons (dV 1) (aCons (dC (.int 1)) (aCons (dC (.int 6)) aNil)))))
  (sSeq (sAsg (dTup (aCons (dMk C_Desk "windows" sp_Desk___init (aCons (dV 3) aNil)) (aCons (dCall sp_mixed (aCons (dV 1) (aCons (dSort (dV 3)) aNil))) aNil))) (gTp 2 (gsCons (gNm 4) (gsCons (gNm 5) gsNil))))
  (sSeq (sSet 6 (dO2 bAdd (dLst (aCons (dV 5) (aCons (dCall (sp_least_order C_Desk) (aCons (dV 4) (aCons (dV 5) aNil))) aNil))) (dLc (iRng (aCons (dC (.int 2)) aNil)) (gNm 13) tYesD (dCall sp_mixed (aCons (dV 1) (aCons (dV 5) aNil))) [13])))
  (sSeq (sSet 7 (dLc (iSeq (dV 6)) (gNm 12) tYesD (dLc (iSeq (dV 6)) (gNm 14) tYesD (dCall (sp_alike C_Desk) (aCons (dV 4) (aCons (dV 12) (aCons (dV 14) aNil)))) [14]) [12]))
  (sSeq (sSet 8 (dLc (iRng (aCons (dC (.int 6)) aNil)) (gNm 13) tYesD (dCall sp_spot (aCons (dV 1) (aCons (dV 3) aNil))) [13]))
  (sSeq (sIf (dT (dO2 (bIsB true) (dO2 bIx (dO2 bIx (dV 7) (dC (.int 0))) (dC (.int 1))) (dC (.bl true)))) (sRet (dC (.bl false))) sNil)
  (sFor (iRng (aCons (dC (.int 4)) aNil)) (gNm 9) (sFor (iRng (aCons (dC (.int 4)) aNil)) (gNm 10) (d_body C_Desk))))))))))
  (sRet (dC (.bl true)))) := rfl
theorem paired_sp {ks : List Nat} {ys : List D} (h : Paired (fun _ d => ∃ x y : Int, d = .tup [.int x, .int y]) ks ys) : ∃ sp : List (Int × Int), ys = sp.map spD ∧ sp.length = ks.length := by
  induction h with
  | nil => exact ⟨[], rfl, rfl⟩
  | cons h _ ih =>
    obtain ⟨x, y, rfl⟩ := h
    obtain ⟨sp, rfl, e⟩ := ih
    exact ⟨(x, y) :: sp, rfl, by rw [List.length_cons, List.length_cons, e]⟩
theorem paired_od {zs : List Str} {ks : List Nat} {ys : List D} (h : Paired (fun _ d => ∃ o : List Str, o.Perm zs ∧ d = odD o) ks ys) : ∃ os : List (List Str), ys = os.map odD ∧ os.length = ks.length ∧ ∀ o ∈ os, o.Perm zs := by
  induction h with
  | nil => exact ⟨[], rfl, rfl, fun _ h => nomatch h⟩
  | cons h _ ih =>
    obtain ⟨x, hx, rfl⟩ := h
    obtain ⟨sp, rfl, e, h2⟩ := ih
    exact ⟨x :: sp, rfl, by rw [List.length_cons, List.length_cons, e], fun o ho => (List.mem_cons.mp ho).elim (fun z => z ▸ hx) (h2 o)⟩
theorem rd_law (C : Addr) : d_law C { nx := fun _ => False, rt := fun x => x = .bl true } (.no :: .fz .bag :: List.replicate 16 .no) := by
  rw [d_law_eq]
  have hB := fun (us ws : List Win) (os : List (List Str)) (sp : List (Int × Int)) W SW hl h4 ho hs (i j : Nat) hi hj (PP : DEnds) (e0 e1 e2 e3 e5 e11 e12 e13 e14 e15 e16 e17 : En) hk => rd_body (C := C) (us := us) (ws := ws) (os := os) (sp := sp) W SW hl h4 ho hs (i := i) (j := j) hi hj (PP := PP) (e0 := e0) (e1 := e1) (e2 := e2) (e3 := e3) (e5 := e5) (e11 := e11) (e12 := e12) (e13 := e13) (e14 := e14) (e15 := e15) (e16 := e16) (e17 := e17) hk
  generalize d_body C = R at hB ⊢
  simp only [dC, dV, dB, dO2, ob_some, dT, dAndT, dOrT, dNotT, dIf, dAndV, dOrV, dNotV, dChain, aNil, aCons, dTup, dLst, dCut, oNone, oSome, dRev, dNeg, dTru, dCa, dIs, dIsA, dCall, dCallK, sNil, sSeq, sNever, sBrk, sCont, sIf, sRet, sRetO, sRetE, sSet, sSetO, sDrop, sPar, sPar3, kn, enOf, owD, sAsg, gNm, gsNil, gsCons, gTp, sApp, sIns, sExt, sClr, sRev, sPut, sFrz, owAt, fin, st, iRng, iRngB, iSeq, lstD, tupD, sFor, dLc, dDc, wipeE, tYesD, dIndex, dSort, dDictZip, dMeth, dFld, dMk, List.map_cons, List.map_nil, List.length_cons, List.length_nil, List.replicate_succ, List.replicate_zero, List.cons_append, List.nil_append, List.append_nil, List.getElem?_cons_zero, List.getElem?_cons_succ, List.set_cons_zero, List.set_cons_succ, Option.bind_some, Option.map_some, Nat.reduceSub, Nat.reduceAdd, kwP, List.getD_cons_zero, List.getD_cons_succ]
  refine ⟨by decide, by decide, ?_⟩
  refine loop_rng (fun _ env => ∃ e2 e3 e4 e5 e6 e7 e8 e9 e10 e11 e12 e13 e14 e15 e16 e17, env = [.no, .fz .bag, e2, e3, e4, e5, e6, e7, e8, e9, e10, e11, e12, e13, e14, e15, e16, e17]) ⟨_, _, _, _, _, _, _, _, _, _, _, _, _, _, _, _, rfl⟩ (fun turn env _ h k hk => ?_) (fun env h => ?_)
  · obtain ⟨e2, e3, e4, e5, e6, e7, e8, e9, e10, e11, e12, e13, e14, e15, e16, e17, rfl⟩ := h
    simp only [dC, dV, dB, dO2, ob_some, dT, dAndT, dOrT, dNotT, dIf, dAndV, dOrV, dNotV, dChain, aNil, aCons, dTup, dLst, dCut, oNone, oSome, dRev, dNeg, dTru, dCa, dIs, dIsA, dCall, dCallK, sNil, sSeq, sNever, sBrk, sCont, sIf, sRet, sRetO, sRetE, sSet, sSetO, sDrop, sPar, sPar3, kn, enOf, owD, sAsg, gNm, gsNil, gsCons, gTp, sApp, sIns, sExt, sClr, sRev, sPut, sFrz, owAt, fin, st, iRng, iRngB, iSeq, lstD, tupD, sFor, dLc, dDc, wipeE, tYesD, dIndex, dSort, dDictZip, dMeth, dFld, dMk, List.map_cons, List.map_nil, List.length_cons, List.length_nil, List.replicate_succ, List.replicate_zero, List.cons_append, List.nil_append, List.append_nil, List.getElem?_cons_zero, List.getElem?_cons_succ, List.set_cons_zero, List.set_cons_succ, Option.bind_some, Option.map_some, Nat.reduceSub, Nat.reduceAdd, kwP, List.getD_cons_zero, List.getD_cons_succ]
    refine ⟨1, 6, rfl, by decide, by decide, by decide, fun ws W S l1 l2 => ?_⟩
    refine ⟨ws, rfl, W, by omega, by omega, fun us pu su => ?_⟩
    simp only [winD]
    refine ⟨_, txtKeys_win ws, by unfold nms; rw [List.length_map]; omega, fun ys hs => ?_⟩
    have ey := sort_nms pu su hs
    subst ey
    have Wu := W.perm pu
    have lu : us.length = ws.length := pu.length_eq
    have nl : (nms us).length = us.length := List.length_map _
    have hl : us.length ≤ 24 := by omega
    refine ⟨_, .inl rfl, by rw [List.length_map]; omega, fun os ho => ?_⟩
    obtain ⟨zs, rfl, hp⟩ := perm_str ho
    have lz : zs.length = us.length := by rw [hp.length_eq, nl]
    obtain ⟨s1, s2, s3⟩ := least_ok Wu hp
    refine ⟨by decide, trivial, trivial, us, _, zs, rfl, .inl rfl, hl, Wu, su, hp, wsh_ne Wu.nd, s1, by decide, by decide, by decide, ?_⟩
    refine comp_all (fun k : Nat => D.int (0 + (k : Nat))) (fun _ d => ∃ o : List Str, o.Perm zs ∧ d = odD o) (List.range 2) [] (fun k2 _ Q Z hQ => ?_) (by simp) (fun ys hys => ?_)
    · simp only [dC, dV, dB, dO2, ob_some, dT, dAndT, dOrT, dNotT, dIf, dAndV, dOrV, dNotV, dChain, aNil, aCons, dTup, dLst, dCut, oNone, oSome, dRev, dNeg, dTru, dCa, dIs, dIsA, dCall, dCallK, sNil, sSeq, sNever, sBrk, sCont, sIf, sRet, sRetO, sRetE, sSet, sSetO, sDrop, sPar, sPar3, kn, enOf, owD, sAsg, gNm, gsNil, gsCons, gTp, sApp, sIns, sExt, sClr, sRev, sPut, sFrz, owAt, fin, st, iRng, iRngB, iSeq, lstD, tupD, sFor, dLc, dDc, wipeE, tYesD, dIndex, dSort, dDictZip, dMeth, dFld, dMk, List.map_cons, List.map_nil, List.length_cons, List.length_nil, List.replicate_succ, List.replicate_zero, List.cons_append, List.nil_append, List.append_nil, List.getElem?_cons_zero, List.getElem?_cons_succ, List.set_cons_zero, List.set_cons_succ, Option.bind_some, Option.map_some, Nat.reduceSub, Nat.reduceAdd, kwP, List.getD_cons_zero, List.getD_cons_succ]
      refine ⟨_, .inl rfl, by rw [List.length_map]; omega, fun os2 ho2 => ?_⟩
      obtain ⟨vs, rfl, hv⟩ := perm_str ho2
      exact hQ _ ⟨vs, hv, rfl⟩
    obtain ⟨o2, rfl, l2', h2'⟩ := paired_od hys
    rw [List.nil_append]
    have hadd : bAdd (.lst [.lst (zs.map D.str), .lst ((settle (us.length + 1) (nms us) (wsh us zs)).map D.str)]) (.lst (o2.map odD)) = some (.lst ((zs :: lst1 us zs :: o2).map odD)) := if_pos (Nat.le_of_lt (szM (by rw [List.length_map, l2']; simp)))
    simp only [hadd, ob_some]
    have ho4 : ∀ o ∈ zs :: lst1 us zs :: o2, o.Perm (nms us) := fun o h => by
      rcases List.mem_cons.mp h with rfl | h
      · exact hp
      · rcases List.mem_cons.mp h with rfl | h
        · exact s2
        · exact (h2' o h).trans hp
    have l4 : (zs :: lst1 us zs :: o2).length = 4 := by rw [List.length_cons, List.length_cons, l2']; rfl
    have h01 : wsh us zs = wsh us (lst1 us zs) := s3.symm
    generalize hos : zs :: lst1 us zs :: o2 = os at ho4 l4
    have g0 : os[0]? = some zs := by rw [← hos]; rfl
    have g1 : os[1]? = some (lst1 us zs) := by rw [← hos]; rfl
    refine .inl (comp_map odD (fun a => .lst (os.map fun b => .bl (decide (wsh us a = wsh us b)))) os [] (fun a ha Q Z hQ => ?_) (by rw [l4]; simp) ?_)
    · simp only [dC, dV, dB, dO2, ob_some, dT, dAndT, dOrT, dNotT, dIf, dAndV, dOrV, dNotV, dChain, aNil, aCons, dTup, dLst, dCut, oNone, oSome, dRev, dNeg, dTru, dCa, dIs, dIsA, dCall, dCallK, sNil, sSeq, sNever, sBrk, sCont, sIf, sRet, sRetO, sRetE, sSet, sSetO, sDrop, sPar, sPar3, kn, enOf, owD, sAsg, gNm, gsNil, gsCons, gTp, sApp, sIns, sExt, sClr, sRev, sPut, sFrz, owAt, fin, st, iRng, iRngB, iSeq, lstD, tupD, sFor, dLc, dDc, wipeE, tYesD, dIndex, dSort, dDictZip, dMeth, dFld, dMk, List.map_cons, List.map_nil, List.length_cons, List.length_nil, List.replicate_succ, List.replicate_zero, List.cons_append, List.nil_append, List.append_nil, List.getElem?_cons_zero, List.getElem?_cons_succ, List.set_cons_zero, List.set_cons_succ, Option.bind_some, Option.map_some, Nat.reduceSub, Nat.reduceAdd, kwP, List.getD_cons_zero, List.getD_cons_succ]
      refine .inl (comp_map odD (fun b => .bl (decide (wsh us a = wsh us b))) os [] (fun b hb Q2 Z2 hQ2 => ?_) (by rw [l4]; simp) ?_)
      · simp only [dC, dV, dB, dO2, ob_some, dT, dAndT, dOrT, dNotT, dIf, dAndV, dOrV, dNotV, dChain, aNil, aCons, dTup, dLst, dCut, oNone, oSome, dRev, dNeg, dTru, dCa, dIs, dIsA, dCall, dCallK, sNil, sSeq, sNever, sBrk, sCont, sIf, sRet, sRetO, sRetE, sSet, sSetO, sDrop, sPar, sPar3, kn, enOf, owD, sAsg, gNm, gsNil, gsCons, gTp, sApp, sIns, sExt, sClr, sRev, sPut, sFrz, owAt, fin, st, iRng, iRngB, iSeq, lstD, tupD, sFor, dLc, dDc, wipeE, tYesD, dIndex, dSort, dDictZip, dMeth, dFld, dMk, List.map_cons, List.map_nil, List.length_cons, List.length_nil, List.replicate_succ, List.replicate_zero, List.cons_append, List.nil_append, List.append_nil, List.getElem?_cons_zero, List.getElem?_cons_succ, List.set_cons_zero, List.set_cons_succ, Option.bind_some, Option.map_some, Nat.reduceSub, Nat.reduceAdd, kwP, List.getD_cons_zero, List.getD_cons_succ]
        exact ⟨us, _, a, _, b, rfl, .inl rfl, .inl rfl, hl, Wu, ho4 a ha, ho4 b hb, hQ2⟩
      · rw [List.nil_append]
        exact hQ
    rw [List.nil_append]
    refine ⟨by decide, by decide, ?_⟩
    refine comp_all (fun k : Nat => D.int (0 + (k : Nat))) (fun _ d => ∃ x y : Int, d = .tup [.int x, .int y]) (List.range 6) [] (fun k2 _ Q Z hQ => ?_) (by simp) (fun ys hys => ?_)
    · simp only [dC, dV, dB, dO2, ob_some, dT, dAndT, dOrT, dNotT, dIf, dAndV, dOrV, dNotV, dChain, aNil, aCons, dTup, dLst, dCut, oNone, oSome, dRev, dNeg, dTru, dCa, dIs, dIsA, dCall, dCallK, sNil, sSeq, sNever, sBrk, sCont, sIf, sRet, sRetO, sRetE, sSet, sSetO, sDrop, sPar, sPar3, kn, enOf, owD, sAsg, gNm, gsNil, gsCons, gTp, sApp, sIns, sExt, sClr, sRev, sPut, sFrz, owAt, fin, st, iRng, iRngB, iSeq, lstD, tupD, sFor, dLc, dDc, wipeE, tYesD, dIndex, dSort, dDictZip, dMeth, dFld, dMk, List.map_cons, List.map_nil, List.length_cons, List.length_nil, List.replicate_succ, List.replicate_zero, List.cons_append, List.nil_append, List.append_nil, List.getElem?_cons_zero, List.getElem?_cons_succ, List.set_cons_zero, List.set_cons_succ, Option.bind_some, Option.map_some, Nat.reduceSub, Nat.reduceAdd, kwP, List.getD_cons_zero, List.getD_cons_succ]
      exact ⟨ws, rfl, W, S, by omega, by omega, fun x y => hQ _ ⟨x, y, rfl⟩⟩
    obtain ⟨sp, rfl, ls⟩ := paired_sp hys
    rw [List.nil_append]
    have t0 : bIx (tabD us os) (.int 0) = some (.lst (os.map fun b => .bl (decide (wsh us zs = wsh us b)))) := tab_at (i := 0) g0
    have t1 : bIx (.lst (os.map fun b => .bl (decide (wsh us zs = wsh us b)))) (.int 1) = some (.bl (decide (wsh us zs = wsh us (lst1 us zs)))) := row_at (j := 1) g1
    have b0 : bIsB true (.bl true) (.bl true) = some (.bl false) := rfl
    show ob (bIx (tabD us os) (.int 0)) _
    simp only [t0, t1, ob_some, decide_eq_true h01, b0, Bool.false_eq_true, if_false]
    refine ⟨by decide, by decide, ?_⟩
    refine loop_rng (fun _ env => ∃ e9 e10 e11 e12 e13 e14 e15 e16 e17, env = [.no, .fz .bag, .fz (.int (0 + (turn : Nat))), .fz (winD ws), .fz (deskD C us), .fz (.lst (zs.map D.str)), .fz (.lst (os.map odD)), .fz (tabD us os), .fz (.lst (sp.map spD)), e9, e10, e11, e12, e13, e14, e15, e16, e17]) ⟨_, _, _, _, _, _, _, _, _, rfl⟩ (fun i env hi h k2 hk2 => ?_) (fun env h => ?_)
    · obtain ⟨e9, e10, e11, e12, e13, e14, e15, e16, e17, rfl⟩ := h
      simp only [dC, dV, dB, dO2, ob_some, dT, dAndT, dOrT, dNotT, dIf, dAndV, dOrV, dNotV, dChain, aNil, aCons, dTup, dLst, dCut, oNone, oSome, dRev, dNeg, dTru, dCa, dIs, dIsA, dCall, dCallK, sNil, sSeq, sNever, sBrk, sCont, sIf, sRet, sRetO, sRetE, sSet, sSetO, sDrop, sPar, sPar3, kn, enOf, owD, sAsg, gNm, gsNil, gsCons, gTp, sApp, sIns, sExt, sClr, sRev, sPut, sFrz, owAt, fin, st, iRng, iRngB, iSeq, lstD, tupD, sFor, dLc, dDc, wipeE, tYesD, dIndex, dSort, dDictZip, dMeth, dFld, dMk, List.map_cons, List.map_nil, List.length_cons, List.length_nil, List.replicate_succ, List.replicate_zero, List.cons_append, List.nil_append, List.append_nil, List.getElem?_cons_zero, List.getElem?_cons_succ, List.set_cons_zero, List.set_cons_succ, Option.bind_some, Option.map_some, Nat.reduceSub, Nat.reduceAdd, kwP, List.getD_cons_zero, List.getD_cons_succ]
      refine ⟨by decide, by decide, ?_⟩
      refine loop_rng (fun _ env => ∃ e10 e11 e12 e13 e14 e15 e16 e17, env = [.no, .fz .bag, .fz (.int (0 + (turn : Nat))), .fz (winD ws), .fz (deskD C us), .fz (.lst (zs.map D.str)), .fz (.lst (os.map odD)), .fz (tabD us os), .fz (.lst (sp.map spD)), .fz (.int (0 + (i : Nat))), e10, e11, e12, e13, e14, e15, e16, e17]) ⟨_, _, _, _, _, _, _, _, rfl⟩ (fun j env hj h k3 hk3 => ?_) (fun env h => ?_)
      · obtain ⟨e10, e11, e12, e13, e14, e15, e16, e17, rfl⟩ := h
        simp only [dC, dV, dB, dO2, ob_some, dT, dAndT, dOrT, dNotT, dIf, dAndV, dOrV, dNotV, dChain, aNil, aCons, dTup, dLst, dCut, oNone, oSome, dRev, dNeg, dTru, dCa, dIs, dIsA, dCall, dCallK, sNil, sSeq, sNever, sBrk, sCont, sIf, sRet, sRetO, sRetE, sSet, sSetO, sDrop, sPar, sPar3, kn, enOf, owD, sAsg, gNm, gsNil, gsCons, gTp, sApp, sIns, sExt, sClr, sRev, sPut, sFrz, owAt, fin, st, iRng, iRngB, iSeq, lstD, tupD, sFor, dLc, dDc, wipeE, tYesD, dIndex, dSort, dDictZip, dMeth, dFld, dMk, List.map_cons, List.map_nil, List.length_cons, List.length_nil, List.replicate_succ, List.replicate_zero, List.cons_append, List.nil_append, List.append_nil, List.getElem?_cons_zero, List.getElem?_cons_succ, List.set_cons_zero, List.set_cons_succ, Option.bind_some, Option.map_some, Nat.reduceSub, Nat.reduceAdd, kwP, List.getD_cons_zero, List.getD_cons_succ]
        exact hB us ws os sp Wu su hl l4 ho4 (by rw [ls]; rfl) i j hi hj _ _ _ _ _ _ _ _ _ _ _ _ _ (fun _ _ _ _ _ _ _ => hk3 _ ⟨_, _, _, _, _, _, _, _, rfl⟩)
      · obtain ⟨e10, e11, e12, e13, e14, e15, e16, e17, rfl⟩ := h
        exact hk2 _ ⟨_, _, _, _, _, _, _, _, _, rfl⟩
    · obtain ⟨e9, e10, e11, e12, e13, e14, e15, e16, e17, rfl⟩ := h
      exact hk _ ⟨_, _, _, _, _, _, _, _, _, _, _, _, _, _, _, _, rfl⟩
  · obtain ⟨e2, e3, e4, e5, e6, e7, e8, e9, e10, e11, e12, e13, e14, e15, e16, e17, rfl⟩ := h
    exact rfl
end DL
namespace RK
open PySem PySem.Spec PyProof.Rows L2 DL
def topS (i : Nat) : Stmt := PySem.Challenge.pw_raisekeys_k09_whole_alike_orders_look_al.main.body.getD i (.Pass ⟨0, 0, 0, 0⟩)
abbrev s_wall : Stmt := topS 0
abbrev s_DeskError___init : Stmt := inClass (topS 2) 0
abbrev s_BadName___init : Stmt := inClass (topS 3) 0
abbrev s_BadRectangle___init : Stmt := inClass (topS 4) 0
abbrev s_BadSize___init : Stmt := inClass (topS 5) 0
abbrev s_BadOrder___init : Stmt := inClass (topS 6) 0
abbrev s_BadWish___init : Stmt := inClass (topS 7) 0
abbrev s_Impossible___init : Stmt := inClass (topS 8) 0
abbrev s_Missing___init : Stmt := inClass (topS 9) 0
abbrev s_Unknown___init : Stmt := inClass (topS 10) 0
abbrev s_check_wish : Stmt := topS 12
abbrev s_is_pair : Stmt := topS 13
abbrev s_places : Stmt := topS 14
abbrev s_settled : Stmt := topS 15
abbrev s_least_keeping : Stmt := topS 16
abbrev s_check_order : Stmt := topS 18
abbrev s_is_order : Stmt := topS 19
abbrev s_wish_of : Stmt := topS 20
abbrev s_alike : Stmt := topS 21
abbrev s_least_order : Stmt := topS 22
abbrev s_is_rectangle : Stmt := topS 25
abbrev s_has_four_numbers : Stmt := topS 26
abbrev s_covers : Stmt := topS 27
abbrev s_common : Stmt := topS 28
abbrev s_is_name : Stmt := topS 33
abbrev s_check_windows : Stmt := topS 34
abbrev s_Desk___init : Stmt := inClass (topS 35) 0
abbrev s_Desk_names : Stmt := inClass (topS 35) 1
abbrev s_Desk_rectangle : Stmt := inClass (topS 35) 2
abbrev s_Desk_overlap : Stmt := inClass (topS 35) 3
abbrev s_Desk_pairs : Stmt := inClass (topS 35) 4
abbrev s_Desk_placed : Stmt := inClass (topS 35) 5
abbrev s_Desk___eq : Stmt := inClass (topS 35) 6
abbrev s_Desk___len : Stmt := inClass (topS 35) 7
abbrev s_Desk___repr : Stmt := inClass (topS 35) 8
abbrev s_covering : Stmt := topS 37
abbrev s_seen : Stmt := topS 38
abbrev s_top_window : Stmt := topS 39
abbrev s_tiles : Stmt := topS 40
abbrev s_band_runs : Stmt := topS 41
abbrev s_bag : Stmt := topS 43
abbrev s_pull : Stmt := topS 44
abbrev s_of : Stmt := topS 45
abbrev s_mixed : Stmt := topS 46
abbrev s_names : Stmt := topS 47
abbrev s_rectangle : Stmt := topS 48
abbrev s_windows : Stmt := topS 49
abbrev s_spot : Stmt := topS 50
abbrev s_law : Stmt := topS 51
theorem sc_check_wish : FnScope ["names", "wish", "known", "at", "item", "name"] ["names", "wish"] (defScope s_check_wish) := ⟨rfl, rfl, rfl, by decide +kernel, rfl, by decide +kernel, by decide +kernel⟩
theorem sc_is_pair : FnScope ["known", "item", "name"] ["known", "item"] (defScope s_is_pair) := ⟨rfl, rfl, rfl, by decide +kernel, rfl, by decide +kernel, by decide +kernel⟩
theorem sc_places : FnScope ["order", "at", "name"] ["order"] (defScope s_places) := ⟨rfl, rfl, rfl, by decide +kernel, rfl, by decide +kernel, by decide +kernel⟩
theorem sc_settled : FnScope ["names", "wish", "waiting", "pairs", "found", "held", "free", "low", "high", "name"] ["names", "wish"] (defScope s_settled) := ⟨rfl, rfl, rfl, by decide +kernel, rfl, by decide +kernel, by decide +kernel⟩
theorem sc_least_keeping : FnScope ["names", "wish", "found"] ["names", "wish"] (defScope s_least_keeping) := ⟨rfl, rfl, rfl, by decide +kernel, rfl, by decide +kernel, by decide +kernel⟩
theorem sc_check_order : FnScope ["desk", "order"] ["desk", "order"] (defScope s_check_order) := ⟨rfl, rfl, rfl, by decide +kernel, rfl, by decide +kernel, by decide +kernel⟩
theorem sc_is_order : FnScope ["desk", "order", "names", "name"] ["desk", "order"] (defScope s_is_order) := ⟨rfl, rfl, rfl, by decide +kernel, rfl, by decide +kernel, by decide +kernel⟩
theorem sc_wish_of : FnScope ["desk", "order", "place", "one", "other"] ["desk", "order"] (defScope s_wish_of) := ⟨rfl, rfl, rfl, by decide +kernel, rfl, by decide +kernel, by decide +kernel⟩
theorem sc_alike : FnScope ["desk", "one", "other"] ["desk", "one", "other"] (defScope s_alike) := ⟨rfl, rfl, rfl, by decide +kernel, rfl, by decide +kernel, by decide +kernel⟩
theorem sc_least_order : FnScope ["desk", "order"] ["desk", "order"] (defScope s_least_order) := ⟨rfl, rfl, rfl, by decide +kernel, rfl, by decide +kernel, by decide +kernel⟩
theorem sc_is_rectangle : FnScope ["rectangle", "left", "top", "right", "bottom", "side"] ["rectangle"] (defScope s_is_rectangle) := ⟨rfl, rfl, rfl, by decide +kernel, rfl, by decide +kernel, by decide +kernel⟩
theorem sc_has_four_numbers : FnScope ["value", "side"] ["value"] (defScope s_has_four_numbers) := ⟨rfl, rfl, rfl, by decide +kernel, rfl, by decide +kernel, by decide +kernel⟩
theorem sc_covers : FnScope ["rectangle", "x", "y", "left", "top", "right", "bottom"] ["rectangle", "x", "y"] (defScope s_covers) := ⟨rfl, rfl, rfl, by decide +kernel, rfl, by decide +kernel, by decide +kernel⟩
theorem sc_common : FnScope ["one", "other", "left", "top", "right", "bottom"] ["one", "other"] (defScope s_common) := ⟨rfl, rfl, rfl, by decide +kernel, rfl, by decide +kernel, by decide +kernel⟩
theorem sc_is_name : FnScope ["text", "letter"] ["text"] (defScope s_is_name) := ⟨rfl, rfl, rfl, by decide +kernel, rfl, by decide +kernel, by decide +kernel⟩
theorem sc_check_windows : FnScope ["windows", "names", "name"] ["windows"] (defScope s_check_windows) := ⟨rfl, rfl, rfl, by decide +kernel, rfl, by decide +kernel, by decide +kernel⟩
theorem sc_Desk___init : FnScope ["self", "windows", "name"] ["self", "windows"] (defScope s_Desk___init) := ⟨rfl, rfl, rfl, by decide +kernel, rfl, by decide +kernel, by decide +kernel⟩
theorem sc_Desk_names : FnScope ["self"] ["self"] (defScope s_Desk_names) := ⟨rfl, rfl, rfl, by decide +kernel, rfl, by decide +kernel, by decide +kernel⟩
theorem sc_Desk_rectangle : FnScope ["self", "name"] ["self", "name"] (defScope s_Desk_rectangle) := ⟨rfl, rfl, rfl, by decide +kernel, rfl, by decide +kernel, by decide +kernel⟩
theorem sc_Desk_overlap : FnScope ["self", "one", "other", "first", "second"] ["self", "one", "other"] (defScope s_Desk_overlap) := ⟨rfl, rfl, rfl, by decide +kernel, rfl, by decide +kernel, by decide +kernel⟩
theorem sc_Desk_pairs : FnScope ["self", "names", "found", "at", "one", "other"] ["self"] (defScope s_Desk_pairs) := ⟨rfl, rfl, rfl, by decide +kernel, rfl, by decide +kernel, by decide +kernel⟩
theorem sc_covering : FnScope ["desk", "names", "x", "y", "name"] ["desk", "names", "x", "y"] (defScope s_covering) := ⟨rfl, rfl, rfl, by decide +kernel, rfl, by decide +kernel, by decide +kernel⟩
theorem sc_seen : FnScope ["desk", "order", "x", "y"] ["desk", "order", "x", "y"] (defScope s_seen) := ⟨rfl, rfl, rfl, by decide +kernel, rfl, by decide +kernel, by decide +kernel⟩
theorem sc_top_window : FnScope ["desk", "order", "x", "y", "found"] ["desk", "order", "x", "y"] (defScope s_top_window) := ⟨rfl, rfl, rfl, by decide +kernel, rfl, by decide +kernel, by decide +kernel⟩
theorem sc_tiles : FnScope ["desk", "order", "rectangles", "columns", "rows", "found", "top", "bottom", "runs", "name", "rectangle", "side", "left", "right"] ["desk", "order"] (defScope s_tiles) := ⟨rfl, rfl, rfl, by decide +kernel, rfl, by decide +kernel, by decide +kernel⟩
theorem sc_band_runs : FnScope ["desk", "order", "columns", "y", "runs", "left", "right", "name"] ["desk", "order", "columns", "y"] (defScope s_band_runs) := ⟨rfl, rfl, rfl, by decide +kernel, rfl, by decide +kernel, by decide +kernel⟩
theorem sc_bag : FnScope ["_law_script", "_law_salt", "_law_cell"] ["_law_script"] (defScope s_bag) := ⟨rfl, rfl, rfl, by decide +kernel, rfl, by decide +kernel, by decide +kernel⟩
theorem sc_pull : FnScope ["_law_bag_here", "_law_amount", "_law_cell", "_law_got", "_law_seed"] ["_law_bag_here", "_law_amount"] (defScope s_pull) := ⟨rfl, rfl, rfl, by decide +kernel, rfl, by decide +kernel, by decide +kernel⟩
theorem sc_of : FnScope ["_law_bag_here", "_law_things"] ["_law_bag_here", "_law_things"] (defScope s_of) := ⟨rfl, rfl, rfl, by decide +kernel, rfl, by decide +kernel, by decide +kernel⟩
theorem sc_mixed : FnScope ["_law_bag_here", "_law_things", "_law_found", "_law_thing"] ["_law_bag_here", "_law_things"] (defScope s_mixed) := ⟨rfl, rfl, rfl, by decide +kernel, rfl, by decide +kernel, by decide +kernel⟩
theorem sc_names : FnScope ["_law_bag_here", "_law_count", "_law_letters", "_law_base", "_law_k", "_law_spot_here", "_law_first", "_law_step"] ["_law_bag_here", "_law_count"] (defScope s_names) := ⟨rfl, rfl, rfl, by decide +kernel, rfl, by decide +kernel, by decide +kernel⟩
theorem sc_rectangle : FnScope ["_law_bag_here", "_law_scale", "_law_left", "_law_top", "_law_right", "_law_bottom"] ["_law_bag_here", "_law_scale"] (defScope s_rectangle) := ⟨rfl, rfl, rfl, by decide +kernel, rfl, by decide +kernel, by decide +kernel⟩
theorem sc_windows : FnScope ["_law_bag_here", "_law_least", "_law_most", "_law_names_here", "_law_scale", "_law_way", "_law_one", "_law_rects", "_law_name"] ["_law_bag_here", "_law_least", "_law_most"] (defScope s_windows) := ⟨rfl, rfl, rfl, by decide +kernel, rfl, by decide +kernel, by decide +kernel⟩
theorem sc_spot : FnScope ["_law_bag_here", "_law_rects", "_law_left", "_law_top", "_law_right", "_law_bottom", "_law_x"] ["_law_bag_here", "_law_rects"] (defScope s_spot) := ⟨rfl, rfl, rfl, by decide +kernel, rfl, by decide +kernel, by decide +kernel⟩
theorem sc_law : FnScope ["_law_script", "_law_bag_here", "_law_turn", "_law_rects", "_law_desk", "_law_order", "_law_orders", "_law_table", "_law_spots", "_law_a", "_law_b", "_law_some", "_law_one", "_law_k", "_law_other", "_law_x", "_law_y", "_law_c"] ["_law_script"] (defScope s_law) := ⟨rfl, rfl, rfl, by decide +kernel, rfl, by decide +kernel, by decide +kernel⟩
structure Txt (K : PySem.W.Frag) (mg : Str → Option Value) where
  f_check_wish : Addr
  fd_check_wish : FuncData
  F_check_wish : Fun K "check_wish" "check_wish" s_check_wish f_check_wish fd_check_wish
  g_check_wish : mg "check_wish" = some (.ref f_check_wish)
  b_check_wish : Binds K fd_check_wish ["names", "wish"] []
  f_is_pair : Addr
  fd_is_pair : FuncData
  F_is_pair : Fun K "is_pair" "is_pair" s_is_pair f_is_pair fd_is_pair
  g_is_pair : mg "is_pair" = some (.ref f_is_pair)
  b_is_pair : Binds K fd_is_pair ["known", "item"] []
  f_places : Addr
  fd_places : FuncData
  F_places : Fun K "places" "places" s_places f_places fd_places
  g_places : mg "places" = some (.ref f_places)
  b_places : Binds K fd_places ["order"] []
  f_settled : Addr
  fd_settled : FuncData
  F_settled : Fun K "settled" "settled" s_settled f_settled fd_settled
  g_settled : mg "settled" = some (.ref f_settled)
  b_settled : Binds K fd_settled ["names", "wish"] []
  f_least_keeping : Addr
  fd_least_keeping : FuncData
  F_least_keeping : Fun K "least_keeping" "least_keeping" s_least_keeping f_least_keeping fd_least_keeping
  g_least_keeping : mg "least_keeping" = some (.ref f_least_keeping)
  b_least_keeping : Binds K fd_least_keeping ["names", "wish"] []
  f_check_order : Addr
  fd_check_order : FuncData
  F_check_order : Fun K "check_order" "check_order" s_check_order f_check_order fd_check_order
  g_check_order : mg "check_order" = some (.ref f_check_order)
  b_check_order : Binds K fd_check_order ["desk", "order"] []
  f_is_order : Addr
  fd_is_order : FuncData
  F_is_order : Fun K "is_order" "is_order" s_is_order f_is_order fd_is_order
  g_is_order : mg "is_order" = some (.ref f_is_order)
  b_is_order : Binds K fd_is_order ["desk", "order"] []
  f_wish_of : Addr
  fd_wish_of : FuncData
  F_wish_of : Fun K "wish_of" "wish_of" s_wish_of f_wish_of fd_wish_of
  g_wish_of : mg "wish_of" = some (.ref f_wish_of)
  b_wish_of : Binds K fd_wish_of ["desk", "order"] []
  f_alike : Addr
  fd_alike : FuncData
  F_alike : Fun K "alike" "alike" s_alike f_alike fd_alike
  g_alike : mg "alike" = some (.ref f_alike)
  b_alike : Binds K fd_alike ["desk", "one", "other"] []
  f_least_order : Addr
  fd_least_order : FuncData
  F_least_order : Fun K "least_order" "least_order" s_least_order f_least_order fd_least_order
  g_least_order : mg "least_order" = some (.ref f_least_order)
  b_least_order : Binds K fd_least_order ["desk", "order"] []
  f_is_rectangle : Addr
  fd_is_rectangle : FuncData
  F_is_rectangle : Fun K "is_rectangle" "is_rectangle" s_is_rectangle f_is_rectangle fd_is_rectangle
  g_is_rectangle : mg "is_rectangle" = some (.ref f_is_rectangle)
  b_is_rectangle : Binds K fd_is_rectangle ["rectangle"] []
  f_has_four_numbers : Addr
  fd_has_four_numbers : FuncData
  F_has_four_numbers : Fun K "has_four_numbers" "has_four_numbers" s_has_four_numbers f_has_four_numbers fd_has_four_numbers
  g_has_four_numbers : mg "has_four_numbers" = some (.ref f_has_four_numbers)
  b_has_four_numbers : Binds K fd_has_four_numbers ["value"] []
  f_covers : Addr
  fd_covers : FuncData
  F_covers : Fun K "covers" "covers" s_covers f_covers fd_covers
  g_covers : mg "covers" = some (.ref f_covers)
  b_covers : Binds K fd_covers ["rectangle", "x", "y"] []
  f_common : Addr
  fd_common : FuncData
  F_common : Fun K "common" "common" s_common f_common fd_common
  g_common : mg "common" = some (.ref f_common)
  b_common : Binds K fd_common ["one", "other"] []
  f_is_name : Addr
  fd_is_name : FuncData
  F_is_name : Fun K "is_name" "is_name" s_is_name f_is_name fd_is_name
  g_is_name : mg "is_name" = some (.ref f_is_name)
  b_is_name : Binds K fd_is_name ["text"] []
  f_check_windows : Addr
  fd_check_windows : FuncData
  F_check_windows : Fun K "check_windows" "check_windows" s_check_windows f_check_windows fd_check_windows
  g_check_windows : mg "check_windows" = some (.ref f_check_windows)
  b_check_windows : Binds K fd_check_windows ["windows"] []
  f_covering : Addr
  fd_covering : FuncData
  F_covering : Fun K "covering" "covering" s_covering f_covering fd_covering
  g_covering : mg "covering" = some (.ref f_covering)
  b_covering : Binds K fd_covering ["desk", "names", "x", "y"] []
  f_seen : Addr
  fd_seen : FuncData
  F_seen : Fun K "seen" "seen" s_seen f_seen fd_seen
  g_seen : mg "seen" = some (.ref f_seen)
  b_seen : Binds K fd_seen ["desk", "order", "x", "y"] []
  f_top_window : Addr
  fd_top_window : FuncData
  F_top_window : Fun K "top_window" "top_window" s_top_window f_top_window fd_top_window
  g_top_window : mg "top_window" = some (.ref f_top_window)
  b_top_window : Binds K fd_top_window ["desk", "order", "x", "y"] []
  f_tiles : Addr
  fd_tiles : FuncData
  F_tiles : Fun K "tiles" "tiles" s_tiles f_tiles fd_tiles
  g_tiles : mg "tiles" = some (.ref f_tiles)
  b_tiles : Binds K fd_tiles ["desk", "order"] []
  f_band_runs : Addr
  fd_band_runs : FuncData
  F_band_runs : Fun K "band_runs" "band_runs" s_band_runs f_band_runs fd_band_runs
  g_band_runs : mg "band_runs" = some (.ref f_band_runs)
  b_band_runs : Binds K fd_band_runs ["desk", "order", "columns", "y"] []
  f_bag : Addr
  fd_bag : FuncData
  F_bag : Fun K "_law_bag" "_law_bag" s_bag f_bag fd_bag
  g_bag : mg "_law_bag" = some (.ref f_bag)
  b_bag : Binds K fd_bag ["_law_script"] []
  f_pull : Addr
  fd_pull : FuncData
  F_pull : Fun K "_law_pull" "_law_pull" s_pull f_pull fd_pull
  g_pull : mg "_law_pull" = some (.ref f_pull)
  b_pull : Binds K fd_pull ["_law_bag_here", "_law_amount"] []
  f_of : Addr
  fd_of : FuncData
  F_of : Fun K "_law_of" "_law_of" s_of f_of fd_of
  g_of : mg "_law_of" = some (.ref f_of)
  b_of : Binds K fd_of ["_law_bag_here", "_law_things"] []
  f_mixed : Addr
  fd_mixed : FuncData
  F_mixed : Fun K "_law_mixed" "_law_mixed" s_mixed f_mixed fd_mixed
  g_mixed : mg "_law_mixed" = some (.ref f_mixed)
  b_mixed : Binds K fd_mixed ["_law_bag_here", "_law_things"] []
  f_names : Addr
  fd_names : FuncData
  F_names : Fun K "_law_names" "_law_names" s_names f_names fd_names
  g_names : mg "_law_names" = some (.ref f_names)
  b_names : Binds K fd_names ["_law_bag_here", "_law_count"] []
  f_rectangle : Addr
  fd_rectangle : FuncData
  F_rectangle : Fun K "_law_rectangle" "_law_rectangle" s_rectangle f_rectangle fd_rectangle
  g_rectangle : mg "_law_rectangle" = some (.ref f_rectangle)
  b_rectangle : Binds K fd_rectangle ["_law_bag_here", "_law_scale"] []
  f_windows : Addr
  fd_windows : FuncData
  F_windows : Fun K "_law_windows" "_law_windows" s_windows f_windows fd_windows
  g_windows : mg "_law_windows" = some (.ref f_windows)
  b_windows : Binds K fd_windows ["_law_bag_here", "_law_least", "_law_most"] []
  f_spot : Addr
  fd_spot : FuncData
  F_spot : Fun K "_law_spot" "_law_spot" s_spot f_spot fd_spot
  g_spot : mg "_law_spot" = some (.ref f_spot)
  b_spot : Binds K fd_spot ["_law_bag_here", "_law_rects"] []
  f_law : Addr
  fd_law : FuncData
  F_law : Fun K "law" "law" s_law f_law fd_law
  g_law : mg "law" = some (.ref f_law)
  b_law : Binds K fd_law ["_law_script"] []
  f_Desk___init : Addr
  fd_Desk___init : FuncData
  F_Desk___init : Fun K "__init__" "Desk.__init__" s_Desk___init f_Desk___init fd_Desk___init
  b_Desk___init : Binds K fd_Desk___init ["self", "windows"] []
  f_Desk_names : Addr
  fd_Desk_names : FuncData
  F_Desk_names : Fun K "names" "Desk.names" s_Desk_names f_Desk_names fd_Desk_names
  b_Desk_names : Binds K fd_Desk_names ["self"] []
  f_Desk_rectangle : Addr
  fd_Desk_rectangle : FuncData
  F_Desk_rectangle : Fun K "rectangle" "Desk.rectangle" s_Desk_rectangle f_Desk_rectangle fd_Desk_rectangle
  b_Desk_rectangle : Binds K fd_Desk_rectangle ["self", "name"] []
  f_Desk_overlap : Addr
  fd_Desk_overlap : FuncData
  F_Desk_overlap : Fun K "overlap" "Desk.overlap" s_Desk_overlap f_Desk_overlap fd_Desk_overlap
  b_Desk_overlap : Binds K fd_Desk_overlap ["self", "one", "other"] []
  f_Desk_pairs : Addr
  fd_Desk_pairs : FuncData
  F_Desk_pairs : Fun K "pairs" "Desk.pairs" s_Desk_pairs f_Desk_pairs fd_Desk_pairs
  b_Desk_pairs : Binds K fd_Desk_pairs ["self"] []
  C_Desk : Addr
  cl_Desk : Cls K C_Desk
  M_Desk : Mk K C_Desk f_Desk___init
  g_Desk : mg "Desk" = some (.ref C_Desk)
  n_Desk_windows : NoAttr K C_Desk "windows"
  ic_Desk : C8.InsC K C_Desk
  ne_Desk : PySem.W.findIn K (.ref C_Desk) "__ne__" = some (some (.builtin "object.__ne__"))
  mo_Desk : PySem.W.mroIn K C_Desk (.type "object") = some true
  sub_dict_Desk : PySem.W.subIn K (.type "dict") (.ref C_Desk) = some false
  kit_dict_Desk : PySem.W.kitOne K (.type "dict") (.ref C_Desk) = some false
  sub_list_Desk : PySem.W.subIn K (.type "list") (.ref C_Desk) = some false
  kit_list_Desk : PySem.W.kitOne K (.type "list") (.ref C_Desk) = some false
  s_Desk___init : PySem.W.findIn K (.ref C_Desk) "__init__" = some (some (.ref f_Desk___init))
  i_Desk___init : PySem.W.isFn K (.ref f_Desk___init) = true
  M_Desk___init : Meth K C_Desk "__init__" f_Desk___init
  s_Desk_names : PySem.W.findIn K (.ref C_Desk) "names" = some (some (.ref f_Desk_names))
  i_Desk_names : PySem.W.isFn K (.ref f_Desk_names) = true
  M_Desk_names : Meth K C_Desk "names" f_Desk_names
  s_Desk_rectangle : PySem.W.findIn K (.ref C_Desk) "rectangle" = some (some (.ref f_Desk_rectangle))
  i_Desk_rectangle : PySem.W.isFn K (.ref f_Desk_rectangle) = true
  M_Desk_rectangle : Meth K C_Desk "rectangle" f_Desk_rectangle
  s_Desk_overlap : PySem.W.findIn K (.ref C_Desk) "overlap" = some (some (.ref f_Desk_overlap))
  i_Desk_overlap : PySem.W.isFn K (.ref f_Desk_overlap) = true
  M_Desk_overlap : Meth K C_Desk "overlap" f_Desk_overlap
  s_Desk_pairs : PySem.W.findIn K (.ref C_Desk) "pairs" = some (some (.ref f_Desk_pairs))
  i_Desk_pairs : PySem.W.isFn K (.ref f_Desk_pairs) = true
  M_Desk_pairs : Meth K C_Desk "pairs" f_Desk_pairs
  t_MOST_COORDINATE : Tok
  c_MOST_COORDINATE : mg "MOST_COORDINATE" = some (.int 1000000000 t_MOST_COORDINATE)
  t_MOST_WINDOWS : Tok
  c_MOST_WINDOWS : mg "MOST_WINDOWS" = some (.int 24 t_MOST_WINDOWS)
  t_MOST_LETTERS : Tok
  c_MOST_LETTERS : mg "MOST_LETTERS" = some (.int 6 t_MOST_LETTERS)
  t_LETTERS : Tok
  c_LETTERS : mg "LETTERS" = some (.str "abcdefghijklmnopqrstuvwxyz" t_LETTERS)
  m_all : mg "all" = none
  m_any : mg "any" = none
  m_dict : mg "dict" = none
  m_enumerate : mg "enumerate" = none
  m_int : mg "int" = none
  m_isinstance : mg "isinstance" = none
  m_len : mg "len" = none
  m_list : mg "list" = none
  m_max : mg "max" = none
  m_min : mg "min" = none
  m_range : mg "range" = none
  m_sorted : mg "sorted" = none
  m_str : mg "str" = none
  m_tuple : mg "tuple" = none
  m_zip : mg "zip" = none
section
variable {P : Program} {w : World} {K : PySem.W.Frag} {mg : Str → Option Value} {base : Heap}
theorem ok_is_pair (T : Txt K mg) {k : Nat} : FnOk P w K mg base CX0 (k + 1) T.f_is_pair T.fd_is_pair ["known", "item"] (lSp K false sp_is_pair) := by
  refine T.F_is_pair.ok sc_is_pair (fun vs H Q E h => ?_) (fun cdv A outer s H vs Q E hr h => ?_)
  · obtain ⟨W, N0, ds, Pd, _, _, _, dd, sp, _⟩ := h
    rw [dd.len]
    exact ln_is_pair sp
  · obtain ⟨W, N0, ds, Pd, al, wn, ok, dd, sp, q⟩ := h
    have tm : PSs (cxOf CX0 P w K mg base ["known", "item", "name"] "is_pair" (defScope s_is_pair) T.f_is_pair cdv A outer s H E).nox (defBody s_is_pair) (lS ⟨K, W, N0, H, false⟩ (d_is_pair)) := ((ss_cons (ds_if (PW.pt (wt_or (dt_not (dt_val (dd_isi (by rfl) T.m_isinstance (c_b (dd_v (pv 1))) (pe_bltn (v := .ty "tuple") (by rfl) T.m_tuple (by decide +kernel) rfl)))) (wt_or1 (dt_ne hr (c_b (dd_len (by rfl) T.m_len (c_b (dd_v (pv 1))))) (c_b dd_int))))) (ss_one (ds_ret (by rfl) dd_bl)) ss_nil)
      (ss_one (ds_ret (by rfl) (dd_and (dd_all (by rfl) T.m_all (c_b (n_c (PE.mono (pe_lc (own := [("name", 2)]) (by rfl) sc_is_pair.nd (db_seq (c_b (dd_v (pv 1)))) (blkOk_by (own := [("name", 2)]) (N := ["known", "item", "name"]) (sc := defScope s_is_pair) (by decide +kernel)) (fun _ _ _ _ _ => (dg_name (i := 2) sc_is_pair.nd rfl (Or.inl rfl))) (fun _ _ _ _ _ => ts_nil) (fun _ _ _ _ _ => (dd_and (dd_isi (by rfl) T.m_isinstance (c_b (dd_v (pv 2))) (pe_bltn (v := .ty "str") (by rfl) T.m_str (by decide +kernel) rfl)) (dd_one (dd_in hr (c_b (dd_v (pv 2))) (c_b (dd_v (pv 0)))))))) (l_lc (by simp)))))) (dd_one (dd_ne hr (c_b (dd_ix hr (c_b (dd_v (pv 1))) (c_b dd_int))) (c_b (dd_ix hr (c_b (dd_v (pv 1))) (c_b dd_int))))))))))
    exact ⟨_, tm, fn_d al wn ok dd q (rd_is_pair sp)⟩
theorem ok_check_wish (T : Txt K mg) {k : Nat} : FnOk P w K mg base CX0 (k + 2) T.f_check_wish T.fd_check_wish ["names", "wish"] (lSp K false sp_check_wish) := by
  refine T.F_check_wish.ok sc_check_wish (fun vs H Q E h => ?_) (fun cdv A outer s H vs Q E hr h => ?_)
  · obtain ⟨W, N0, ds, Pd, _, _, _, dd, sp, _⟩ := h
    rw [dd.len]
    exact ln_check_wish sp
  · obtain ⟨W, N0, ds, Pd, al, wn, ok, dd, sp, q⟩ := h
    have tm : PSs (cxOf CX0 P w K mg base ["names", "wish", "known", "at", "item", "name"] "check_wish" (defScope s_check_wish) T.f_check_wish cdv A outer s H E).nox (defBody s_check_wish) (lS ⟨K, W, N0, H, false⟩ (d_check_wish)) := ((ss_cons (PS.mono (ps_setDc (i := 2) (own := [("name", 5)]) (by rfl) sc_check_wish.nd rfl rfl (swD_true rfl rfl rfl (by decide +kernel)) (db_seq (c_b (dd_v (pv 0)))) (blkOk_by (own := [("name", 5)]) (N := ["names", "wish", "known", "at", "item", "name"]) (sc := defScope s_check_wish) (by decide +kernel)) (fun _ _ _ _ _ => (dg_name (i := 5) sc_check_wish.nd rfl (Or.inl rfl))) (fun _ _ _ _ _ => ts_nil) (fun _ _ _ _ _ => (dd_v (pv 5))) (fun _ _ _ _ _ => dd_bl)) (l_setF_n (l_dc (by simp))))
      (ss_one (ds_for PassesOwn.never rfl (di_enum (by rfl) T.m_enumerate (dd_v (pv 1))) (PG.mono (pg_tup (by rfl) (PGs.mono (pgs_cons (dg_name (i := 3) sc_check_wish.nd rfl (Or.inl rfl)) (PGs.mono (pgs_cons (dg_name (i := 4) sc_check_wish.nd rfl (Or.inl rfl)) dgs_nil) l_gcons)) l_gcons)) (l_gtup rfl)) (ss_one (ds_if (dt_not (dt_val (dd_call (ok_is_pair T) hr (by rfl) T.g_is_pair T.F_is_pair.kp T.b_is_pair pass0 (da_cons (dd_v (pv 2)) (da_cons (dd_v (pv 4)) da_nil))))) (ss_one ds_never) ss_nil))))))
    exact ⟨_, tm, fn_d al wn ok dd q (rd_check_wish sp)⟩
theorem ok_places (T : Txt K mg) {k : Nat} : FnOk P w K mg base CX0 (k + 1) T.f_places T.fd_places ["order"] (lSp K true sp_places) := by
  refine T.F_places.ok sc_places (fun vs H Q E h => ?_) (fun cdv A outer s H vs Q E hr h => ?_)
  · obtain ⟨W, N0, ds, Pd, _, _, _, dd, sp, _⟩ := h
    rw [dd.len]
    exact ln_places sp
  · obtain ⟨W, N0, ds, Pd, al, wn, ok, dd, sp, q⟩ := h
    have tm : PSs (cxOf CX0 P w K mg base ["order", "at", "name"] "places" (defScope s_places) T.f_places cdv A outer s H E).nox (defBody s_places) (lS ⟨K, W, N0, H, true⟩ (d_places)) := ((ss_one (ds_retN (PE.mono (pe_dc (own := [("at", 1), ("name", 2)]) (by rfl) sc_places.nd (db_enum (by rfl) T.m_enumerate (c_b (dd_v (pv 0)))) (blkOk_by (own := [("at", 1), ("name", 2)]) (N := ["order", "at", "name"]) (sc := defScope s_places) (by decide +kernel)) (fun _ _ _ _ _ => (PG.mono (pg_tup (by rfl) (PGs.mono (pgs_cons (dg_name (i := 1) sc_places.nd rfl (Or.inl rfl)) (PGs.mono (pgs_cons (dg_name (i := 2) sc_places.nd rfl (Or.inl rfl)) dgs_nil) l_gcons)) l_gcons)) (l_gtup rfl))) (fun _ _ _ _ _ => ts_nil) (fun _ _ _ _ _ => (dd_v (pv 2))) (fun _ _ _ _ _ => (dd_v (pv 1)))) (l_dc (by simp))))))
    exact ⟨_, tm, fn_d al wn ok dd q (rd_places sp)⟩
theorem ok_settled (T : Txt K mg) {k : Nat} : FnOk P w K mg base CX0 (k + 1) T.f_settled T.fd_settled ["names", "wish"] (lSp K true sp_settled) := by
  refine T.F_settled.ok sc_settled (fun vs H Q E h => ?_) (fun cdv A outer s H vs Q E hr h => ?_)
  · obtain ⟨W, N0, ds, Pd, _, _, _, dd, sp, _⟩ := h
    rw [dd.len]
    exact ln_settled sp
  · obtain ⟨W, N0, ds, Pd, al, wn, ok, dd, sp, q⟩ := h
    have tm : PSs (cxOf CX0 P w K mg base ["names", "wish", "waiting", "pairs", "found", "held", "free", "low", "high", "name"] "settled" (defScope s_settled) T.f_settled cdv A outer s H E).nox (defBody s_settled) (lS ⟨K, W, N0, H, true⟩ (d_settled)) := ((ss_cons (ds_setO (i := 2) sc_settled.nd rfl (.inl rfl) (dn_sort (by rfl) T.m_sorted (c_b (dd_v (pv 0)))))
      (ss_cons (ds_set (i := 3) sc_settled.nd rfl (.inl rfl) (n_c (dn_list (by rfl) T.m_list (c_b (dd_v (pv 1))))))
      (ss_cons (ds_setO (i := 4) sc_settled.nd rfl (.inl rfl) (dn_lst da_nil))
      (ss_one (ds_while PassesOwn.never (dt_val dd_bl) (ss_cons (ds_set (i := 5) sc_settled.nd rfl (.inr rfl) (n_c (PE.mono (pe_dc (own := [("low", 7), ("high", 8)]) (by rfl) sc_settled.nd (db_seq (c_b (dd_v (pv 3)))) (blkOk_by (own := [("low", 7), ("high", 8)]) (N := ["names", "wish", "waiting", "pairs", "found", "held", "free", "low", "high", "name"]) (sc := defScope s_settled) (by decide +kernel)) (fun _ _ _ _ _ => (PG.mono (pg_tup (by rfl) (PGs.mono (pgs_cons (dg_name (i := 7) sc_settled.nd rfl (Or.inl rfl)) (PGs.mono (pgs_cons (dg_name (i := 8) sc_settled.nd rfl (Or.inl rfl)) dgs_nil) l_gcons)) l_gcons)) (l_gtup rfl))) (fun _ _ _ _ _ => ts_nil) (fun _ _ _ _ _ => (dd_v (pv 8))) (fun _ _ _ _ _ => dd_bl)) (l_dc (by simp)))))
      (ss_cons (ds_set (i := 6) sc_settled.nd rfl (.inr rfl) (n_c (PE.mono (pe_lc (own := [("name", 9)]) (by rfl) sc_settled.nd (db_seq (dd_b (pv 2))) (blkOk_by (own := [("name", 9)]) (N := ["names", "wish", "waiting", "pairs", "found", "held", "free", "low", "high", "name"]) (sc := defScope s_settled) (by decide +kernel)) (fun _ _ _ _ _ => (dg_name (i := 9) sc_settled.nd rfl (Or.inl rfl))) (fun _ _ _ _ _ => (ts_one (dt_notin hr (c_b (dd_v (pv 9))) (c_b (dd_v (pv 5)))))) (fun _ _ _ _ _ => (dd_v (pv 9)))) (l_lc (by simp)))))
      (ss_cons (ds_if (dt_not (dt_tru (c_b (dd_v (pv 6))))) (ss_one (ds_retO (pv 4))) ss_nil)
      (ss_cons (ds_app (pv 4) (dd_ix hr (c_b (dd_v (pv 6))) (c_b dd_int)))
      (ss_cons (ds_rem (pv 2) (dd_ix hr (c_b (dd_v (pv 6))) (c_b dd_int)))
      (ss_one (PS.mono (ps_setLc (i := 3) (own := [("low", 7), ("high", 8)]) (by rfl) sc_settled.nd rfl rfl (sw_true rfl rfl rfl (by decide +kernel)) (db_seq (c_b (dd_v (pv 3)))) (blkOk_by (own := [("low", 7), ("high", 8)]) (N := ["names", "wish", "waiting", "pairs", "found", "held", "free", "low", "high", "name"]) (sc := defScope s_settled) (by decide +kernel)) (fun _ _ _ _ _ => (PG.mono (pg_tup (by rfl) (PGs.mono (pgs_cons (dg_name (i := 7) sc_settled.nd rfl (Or.inl rfl)) (PGs.mono (pgs_cons (dg_name (i := 8) sc_settled.nd rfl (Or.inl rfl)) dgs_nil) l_gcons)) l_gcons)) (l_gtup rfl))) (fun _ _ _ _ _ => (ts_one (dt_ne hr (c_b (dd_v (pv 7))) (c_b (dd_ix hr (c_b (dd_v (pv 6))) (c_b dd_int)))))) (fun _ _ _ _ _ => (n_c (dn_tup (da_cons (dd_v (pv 7)) (da_cons (dd_v (pv 8)) da_nil)))))) (l_setF_n (l_lc (by simp))))))))))))))))
    exact ⟨_, tm, fn_d al wn ok dd q (rd_settled sp)⟩
theorem ok_least_keeping (T : Txt K mg) {k : Nat} : FnOk P w K mg base CX0 (k + 3) T.f_least_keeping T.fd_least_keeping ["names", "wish"] (lSp K true sp_least_keeping) := by
  refine T.F_least_keeping.ok sc_least_keeping (fun vs H Q E h => ?_) (fun cdv A outer s H vs Q E hr h => ?_)
  · obtain ⟨W, N0, ds, Pd, _, _, _, dd, sp, _⟩ := h
    rw [dd.len]
    exact ln_least_keeping sp
  · obtain ⟨W, N0, ds, Pd, al, wn, ok, dd, sp, q⟩ := h
    have tm : PSs (cxOf CX0 P w K mg base ["names", "wish", "found"] "least_keeping" (defScope s_least_keeping) T.f_least_keeping cdv A outer s H E).nox (defBody s_least_keeping) (lS ⟨K, W, N0, H, true⟩ (d_least_keeping)) := ((ss_cons (ds_expr (dd_call (ok_check_wish T) hr (by rfl) T.g_check_wish T.F_check_wish.kp T.b_check_wish pass0 (da_cons (dd_v (pv 0)) (da_cons (dd_v (pv 1)) da_nil))))
      (ss_cons (ds_setO (i := 2) sc_least_keeping.nd rfl (.inl rfl) (dn_call (ok_settled T) hr (by rfl) T.g_settled T.F_settled.kp T.b_settled pass0 (da_cons (dd_v (pv 0)) (da_cons (dd_v (pv 1)) da_nil))))
      (ss_cons (ds_if (dt_lt (c_b (dd_len (by rfl) T.m_len (dd_b (pv 2)))) (c_b (dd_len (by rfl) T.m_len (c_b (dd_v (pv 0)))))) (ss_one ds_never) ss_nil)
      (ss_one (ds_retO (pv 2)))))))
    exact ⟨_, tm, fn_d al wn ok dd q (rd_least_keeping sp)⟩
theorem ok_Desk_names (T : Txt K mg) {k : Nat} : FnOk P w K mg base CX0 (k + 1) T.f_Desk_names T.fd_Desk_names ["self"] (lSp K true (sp_Desk_names T.C_Desk)) := by
  refine T.F_Desk_names.ok sc_Desk_names (fun vs H Q E h => ?_) (fun cdv A outer s H vs Q E hr h => ?_)
  · obtain ⟨W, N0, ds, Pd, _, _, _, dd, sp, _⟩ := h
    rw [dd.len]
    exact ln_Desk_names sp
  · obtain ⟨W, N0, ds, Pd, al, wn, ok, dd, sp, q⟩ := h
    have tm : PSs (cxOf CX0 P w K mg base ["self"] "Desk.names" (defScope s_Desk_names) T.f_Desk_names cdv A outer s H E).nox (defBody s_Desk_names) (lS ⟨K, W, N0, H, true⟩ (d_Desk_names T.C_Desk)) := ((ss_one (ds_retN (dn_list (by rfl) T.m_list (c_b (PE.mono (pe_fld (dd_v (pv 0)) rfl) (l_fld T.cl_Desk T.n_Desk_windows)))))))
    exact ⟨_, tm, fn_d al wn ok dd q (rd_Desk_names sp)⟩
theorem ok_is_order (T : Txt K mg) {k : Nat} : FnOk P w K mg base CX0 (k + 2) T.f_is_order T.fd_is_order ["desk", "order"] (lSp K false (sp_is_order T.C_Desk)) := by
  refine T.F_is_order.ok sc_is_order (fun vs H Q E h => ?_) (fun cdv A outer s H vs Q E hr h => ?_)
  · obtain ⟨W, N0, ds, Pd, _, _, _, dd, sp, _⟩ := h
    rw [dd.len]
    exact ln_is_order sp
  · obtain ⟨W, N0, ds, Pd, al, wn, ok, dd, sp, q⟩ := h
    have tm : PSs (cxOf CX0 P w K mg base ["desk", "order", "names", "name"] "is_order" (defScope s_is_order) T.f_is_order cdv A outer s H E).nox (defBody s_is_order) (lS ⟨K, W, N0, H, false⟩ (d_is_order T.C_Desk)) := ((ss_cons (ds_set (i := 2) sc_is_order.nd rfl (.inl rfl) (PE.mono (pe_meth0 (dd_v (pv 0)) T.cl_Desk T.M_Desk_names (ok_Desk_names T) hr T.b_Desk_names .nil pass0) (l_meth0 rfl)))
      (ss_one (ds_ret (by rfl) (dd_and (dd_eq hr (c_b (dd_len (by rfl) T.m_len (c_b (dd_v (pv 1))))) (c_b (dd_len (by rfl) T.m_len (c_b (dd_v (pv 2)))))) (dd_one (dd_all (by rfl) T.m_all (c_b (n_c (PE.mono (pe_lc (own := [("name", 3)]) (by rfl) sc_is_order.nd (db_seq (c_b (dd_v (pv 2)))) (blkOk_by (own := [("name", 3)]) (N := ["desk", "order", "names", "name"]) (sc := defScope s_is_order) (by decide +kernel)) (fun _ _ _ _ _ => (dg_name (i := 3) sc_is_order.nd rfl (Or.inl rfl))) (fun _ _ _ _ _ => ts_nil) (fun _ _ _ _ _ => (dd_in hr (c_b (dd_v (pv 3))) (c_b (dd_v (pv 1)))))) (l_lc (by simp))))))))))))
    exact ⟨_, tm, fn_d al wn ok dd q (rd_is_order sp)⟩
theorem ok_check_order (T : Txt K mg) {k : Nat} : FnOk P w K mg base CX0 (k + 3) T.f_check_order T.fd_check_order ["desk", "order"] (lSp K false (sp_check_order T.C_Desk)) := by
  refine T.F_check_order.ok sc_check_order (fun vs H Q E h => ?_) (fun cdv A outer s H vs Q E hr h => ?_)
  · obtain ⟨W, N0, ds, Pd, _, _, _, dd, sp, _⟩ := h
    rw [dd.len]
    exact ln_check_order sp
  · obtain ⟨W, N0, ds, Pd, al, wn, ok, dd, sp, q⟩ := h
    have tm : PSs (cxOf CX0 P w K mg base ["desk", "order"] "check_order" (defScope s_check_order) T.f_check_order cdv A outer s H E).nox (defBody s_check_order) (lS ⟨K, W, N0, H, false⟩ (d_check_order T.C_Desk)) := ((ss_one (ds_if (dt_not (dt_val (dd_call (ok_is_order T) hr (by rfl) T.g_is_order T.F_is_order.kp T.b_is_order pass0 (da_cons (dd_v (pv 0)) (da_cons (dd_v (pv 1)) da_nil))))) (ss_one ds_never) ss_nil)))
    exact ⟨_, tm, fn_d al wn ok dd q (rd_check_order sp)⟩
theorem ok_Desk_rectangle (T : Txt K mg) {k : Nat} : FnOk P w K mg base CX0 (k + 1) T.f_Desk_rectangle T.fd_Desk_rectangle ["self", "name"] (lSp K false (sp_Desk_rectangle T.C_Desk)) := by
  refine T.F_Desk_rectangle.ok sc_Desk_rectangle (fun vs H Q E h => ?_) (fun cdv A outer s H vs Q E hr h => ?_)
  · obtain ⟨W, N0, ds, Pd, _, _, _, dd, sp, _⟩ := h
    rw [dd.len]
    exact ln_Desk_rectangle sp
  · obtain ⟨W, N0, ds, Pd, al, wn, ok, dd, sp, q⟩ := h
    have tm : PSs (cxOf CX0 P w K mg base ["self", "name"] "Desk.rectangle" (defScope s_Desk_rectangle) T.f_Desk_rectangle cdv A outer s H E).nox (defBody s_Desk_rectangle) (lS ⟨K, W, N0, H, false⟩ (d_Desk_rectangle T.C_Desk)) := ((ss_cons (ds_if (dt_notin hr (c_b (dd_v (pv 1))) (c_b (PE.mono (pe_fld (dd_v (pv 0)) rfl) (l_fld T.cl_Desk T.n_Desk_windows)))) (ss_one ds_never) ss_nil)
      (ss_one (ds_ret (by rfl) (dd_ix hr (c_b (PE.mono (pe_fld (dd_v (pv 0)) rfl) (l_fld T.cl_Desk T.n_Desk_windows))) (c_b (dd_v (pv 1))))))))
    exact ⟨_, tm, fn_d al wn ok dd q (rd_Desk_rectangle sp)⟩
theorem ok_common (T : Txt K mg) {k : Nat} : FnOk P w K mg base CX0 (k + 1) T.f_common T.fd_common ["one", "other"] (lSp K false sp_common) := by
  refine T.F_common.ok sc_common (fun vs H Q E h => ?_) (fun cdv A outer s H vs Q E hr h => ?_)
  · obtain ⟨W, N0, ds, Pd, _, _, _, dd, sp, _⟩ := h
    rw [dd.len]
    exact ln_common sp
  · obtain ⟨W, N0, ds, Pd, al, wn, ok, dd, sp, q⟩ := h
    have tm : PSs (cxOf CX0 P w K mg base ["one", "other", "left", "top", "right", "bottom"] "common" (defScope s_common) T.f_common cdv A outer s H E).nox (defBody s_common) (lS ⟨K, W, N0, H, false⟩ (d_common)) := ((ss_cons (ds_set (i := 2) sc_common.nd rfl (.inl rfl) (dd_max2 (by rfl) T.m_max (c_b (dd_ix hr (c_b (dd_v (pv 0))) (c_b dd_int))) (c_b (dd_ix hr (c_b (dd_v (pv 1))) (c_b dd_int)))))
      (ss_cons (ds_set (i := 3) sc_common.nd rfl (.inl rfl) (dd_max2 (by rfl) T.m_max (c_b (dd_ix hr (c_b (dd_v (pv 0))) (c_b dd_int))) (c_b (dd_ix hr (c_b (dd_v (pv 1))) (c_b dd_int)))))
      (ss_cons (ds_set (i := 4) sc_common.nd rfl (.inl rfl) (dd_min2 (by rfl) T.m_min (c_b (dd_ix hr (c_b (dd_v (pv 0))) (c_b dd_int))) (c_b (dd_ix hr (c_b (dd_v (pv 1))) (c_b dd_int)))))
      (ss_cons (ds_set (i := 5) sc_common.nd rfl (.inl rfl) (dd_min2 (by rfl) T.m_min (c_b (dd_ix hr (c_b (dd_v (pv 0))) (c_b dd_int))) (c_b (dd_ix hr (c_b (dd_v (pv 1))) (c_b dd_int)))))
      (ss_cons (ds_if (PW.pt (wt_and (dt_lt (c_b (dd_v (pv 2))) (c_b (dd_v (pv 4)))) (wt_and1 (dt_lt (c_b (dd_v (pv 3))) (c_b (dd_v (pv 5))))))) (ss_one (ds_ret (by rfl) (n_c (dn_tup (da_cons (dd_v (pv 2)) (da_cons (dd_v (pv 3)) (da_cons (dd_v (pv 4)) (da_cons (dd_v (pv 5)) da_nil)))))))) ss_nil)
      (ss_one (ds_ret (by rfl) dd_non))))))))
    exact ⟨_, tm, fn_d al wn ok dd q (rd_common sp)⟩
theorem ok_Desk_overlap (T : Txt K mg) {k : Nat} : FnOk P w K mg base CX0 (k + 2) T.f_Desk_overlap T.fd_Desk_overlap ["self", "one", "other"] (lSp K false (sp_Desk_overlap T.C_Desk)) := by
  refine T.F_Desk_overlap.ok sc_Desk_overlap (fun vs H Q E h => ?_) (fun cdv A outer s H vs Q E hr h => ?_)
  · obtain ⟨W, N0, ds, Pd, _, _, _, dd, sp, _⟩ := h
    rw [dd.len]
    exact ln_Desk_overlap sp
  · obtain ⟨W, N0, ds, Pd, al, wn, ok, dd, sp, q⟩ := h
    have tm : PSs (cxOf CX0 P w K mg base ["self", "one", "other", "first", "second"] "Desk.overlap" (defScope s_Desk_overlap) T.f_Desk_overlap cdv A outer s H E).nox (defBody s_Desk_overlap) (lS ⟨K, W, N0, H, false⟩ (d_Desk_overlap T.C_Desk)) := ((ss_cons (ds_set (i := 3) sc_Desk_overlap.nd rfl (.inl rfl) (PE.mono (pe_meth (dd_v (pv 0)) T.cl_Desk T.M_Desk_rectangle (ok_Desk_rectangle T) hr T.b_Desk_rectangle .nil pass0 (da_cons (dd_v (pv 1)) da_nil)) (l_meth rfl)))
      (ss_cons (ds_set (i := 4) sc_Desk_overlap.nd rfl (.inl rfl) (PE.mono (pe_meth (dd_v (pv 0)) T.cl_Desk T.M_Desk_rectangle (ok_Desk_rectangle T) hr T.b_Desk_rectangle .nil pass0 (da_cons (dd_v (pv 2)) da_nil)) (l_meth rfl)))
      (ss_one (ds_ret (by rfl) (dd_isnot (c_b (dd_call (ok_common T) hr (by rfl) T.g_common T.F_common.kp T.b_common pass0 (da_cons (dd_v (pv 3)) (da_cons (dd_v (pv 4)) da_nil)))) (c_b dd_non)))))))
    exact ⟨_, tm, fn_d al wn ok dd q (rd_Desk_overlap sp)⟩
theorem ok_Desk_pairs (T : Txt K mg) {k : Nat} : FnOk P w K mg base CX0 (k + 3) T.f_Desk_pairs T.fd_Desk_pairs ["self"] (lSp K false (sp_Desk_pairs T.C_Desk)) := by
  refine T.F_Desk_pairs.ok sc_Desk_pairs (fun vs H Q E h => ?_) (fun cdv A outer s H vs Q E hr h => ?_)
  · obtain ⟨W, N0, ds, Pd, _, _, _, dd, sp, _⟩ := h
    rw [dd.len]
    exact ln_Desk_pairs sp
  · obtain ⟨W, N0, ds, Pd, al, wn, ok, dd, sp, q⟩ := h
    have tm : PSs (cxOf CX0 P w K mg base ["self", "names", "found", "at", "one", "other"] "Desk.pairs" (defScope s_Desk_pairs) T.f_Desk_pairs cdv A outer s H E).nox (defBody s_Desk_pairs) (lS ⟨K, W, N0, H, false⟩ (d_Desk_pairs T.C_Desk)) := ((ss_cons (ds_set (i := 1) sc_Desk_pairs.nd rfl (.inl rfl) (PE.mono (pe_meth0 (dd_v (pv 0)) T.cl_Desk T.M_Desk_names (ok_Desk_names T) hr T.b_Desk_names .nil pass0) (l_meth0 rfl)))
      (ss_cons (ds_setO (i := 2) sc_Desk_pairs.nd rfl (.inl rfl) (dn_lst da_nil))
      (ss_cons (ds_for PassesOwn.never rfl (di_enum (by rfl) T.m_enumerate (dd_v (pv 1))) (PG.mono (pg_tup (by rfl) (PGs.mono (pgs_cons (dg_name (i := 3) sc_Desk_pairs.nd rfl (Or.inl rfl)) (PGs.mono (pgs_cons (dg_name (i := 4) sc_Desk_pairs.nd rfl (Or.inr rfl)) dgs_nil) l_gcons)) l_gcons)) (l_gtup rfl)) (ss_one (ds_ext (pv 2) (c_b (n_c (PE.mono (pe_lc (own := [("other", 5)]) (by rfl) sc_Desk_pairs.nd (db_seq (c_b (dd_cut (c_b (dd_v (pv 1))) (do_some (dd_add (c_b (dd_v (pv 3))) (c_b dd_int))) do_none))) (blkOk_by (own := [("other", 5)]) (N := ["self", "names", "found", "at", "one", "other"]) (sc := defScope s_Desk_pairs) (by decide +kernel)) (fun _ _ _ _ _ => (dg_name (i := 5) sc_Desk_pairs.nd rfl (Or.inl rfl))) (fun _ _ _ _ _ => (ts_one (dt_val (PE.mono (pe_meth (dd_v (pv 0)) T.cl_Desk T.M_Desk_overlap (ok_Desk_overlap T) hr T.b_Desk_overlap .nil pass0 (da_cons (dd_v (pv 4)) (da_cons (dd_v (pv 5)) da_nil))) (l_meth rfl))))) (fun _ _ _ _ _ => (n_c (dn_tup (da_cons (dd_v (pv 4)) (da_cons (dd_v (pv 5)) da_nil)))))) (l_lc (by simp))))))))
      (ss_one (ds_retO (pv 2)))))))
    exact ⟨_, tm, fn_d al wn ok dd q (rd_Desk_pairs sp)⟩
theorem ok_wish_of (T : Txt K mg) {k : Nat} : FnOk P w K mg base CX0 (k + 4) T.f_wish_of T.fd_wish_of ["desk", "order"] (lSp K true (sp_wish_of T.C_Desk)) := by
  refine T.F_wish_of.ok sc_wish_of (fun vs H Q E h => ?_) (fun cdv A outer s H vs Q E hr h => ?_)
  · obtain ⟨W, N0, ds, Pd, _, _, _, dd, sp, _⟩ := h
    rw [dd.len]
    exact ln_wish_of sp
  · obtain ⟨W, N0, ds, Pd, al, wn, ok, dd, sp, q⟩ := h
    have tm : PSs (cxOf CX0 P w K mg base ["desk", "order", "place", "one", "other"] "wish_of" (defScope s_wish_of) T.f_wish_of cdv A outer s H E).nox (defBody s_wish_of) (lS ⟨K, W, N0, H, true⟩ (d_wish_of T.C_Desk)) := ((ss_cons (ds_expr (dd_call (ok_check_order T) hr (by rfl) T.g_check_order T.F_check_order.kp T.b_check_order pass0 (da_cons (dd_v (pv 0)) (da_cons (dd_v (pv 1)) da_nil))))
      (ss_cons (ds_set (i := 2) sc_wish_of.nd rfl (.inr rfl) (n_c (dn_call (ok_places T) hr (by rfl) T.g_places T.F_places.kp T.b_places pass0 (da_cons (dd_v (pv 1)) da_nil))))
      (ss_one (ds_retN (dn_sortP hr (by rfl) T.m_sorted (c_b (n_c (PE.mono (pe_lc (own := [("one", 3), ("other", 4)]) (by rfl) sc_wish_of.nd (db_seq (c_b (PE.mono (pe_meth0 (dd_v (pv 0)) T.cl_Desk T.M_Desk_pairs (ok_Desk_pairs T) hr T.b_Desk_pairs .nil pass0) (l_meth0 rfl)))) (blkOk_by (own := [("one", 3), ("other", 4)]) (N := ["desk", "order", "place", "one", "other"]) (sc := defScope s_wish_of) (by decide +kernel)) (fun _ _ _ _ _ => (PG.mono (pg_tup (by rfl) (PGs.mono (pgs_cons (dg_name (i := 3) sc_wish_of.nd rfl (Or.inl rfl)) (PGs.mono (pgs_cons (dg_name (i := 4) sc_wish_of.nd rfl (Or.inl rfl)) dgs_nil) l_gcons)) l_gcons)) (l_gtup rfl))) (fun _ _ _ _ _ => ts_nil) (fun _ _ _ _ _ => (dd_if (dt_lt (c_b (dd_ix hr (c_b (dd_v (pv 2))) (c_b (dd_v (pv 3))))) (c_b (dd_ix hr (c_b (dd_v (pv 2))) (c_b (dd_v (pv 4)))))) (n_c (dn_tup (da_cons (dd_v (pv 3)) (da_cons (dd_v (pv 4)) da_nil)))) (n_c (dn_tup (da_cons (dd_v (pv 4)) (da_cons (dd_v (pv 3)) da_nil))))))) (l_lc (by simp)))))))))))
    exact ⟨_, tm, fn_d al wn ok dd q (rd_wish_of sp)⟩
theorem ok_alike (T : Txt K mg) {k : Nat} : FnOk P w K mg base CX0 (k + 5) T.f_alike T.fd_alike ["desk", "one", "other"] (lSp K false (sp_alike T.C_Desk)) := by
  refine T.F_alike.ok sc_alike (fun vs H Q E h => ?_) (fun cdv A outer s H vs Q E hr h => ?_)
  · obtain ⟨W, N0, ds, Pd, _, _, _, dd, sp, _⟩ := h
    rw [dd.len]
    exact ln_alike sp
  · obtain ⟨W, N0, ds, Pd, al, wn, ok, dd, sp, q⟩ := h
    have tm : PSs (cxOf CX0 P w K mg base ["desk", "one", "other"] "alike" (defScope s_alike) T.f_alike cdv A outer s H E).nox (defBody s_alike) (lS ⟨K, W, N0, H, false⟩ (d_alike T.C_Desk)) := ((ss_one (ds_ret (by rfl) (dd_eq hr (c_b (n_c (dn_call (ok_wish_of T) hr (by rfl) T.g_wish_of T.F_wish_of.kp T.b_wish_of pass0 (da_cons (dd_v (pv 0)) (da_cons (dd_v (pv 1)) da_nil))))) (c_b (n_c (dn_call (ok_wish_of T) hr (by rfl) T.g_wish_of T.F_wish_of.kp T.b_wish_of pass0 (da_cons (dd_v (pv 0)) (da_cons (dd_v (pv 2)) da_nil)))))))))
    exact ⟨_, tm, fn_d al wn ok dd q (rd_alike sp)⟩
theorem ok_least_order (T : Txt K mg) {k : Nat} : FnOk P w K mg base CX0 (k + 5) T.f_least_order T.fd_least_order ["desk", "order"] (lSp K true (sp_least_order T.C_Desk)) := by
  refine T.F_least_order.ok sc_least_order (fun vs H Q E h => ?_) (fun cdv A outer s H vs Q E hr h => ?_)
  · obtain ⟨W, N0, ds, Pd, _, _, _, dd, sp, _⟩ := h
    rw [dd.len]
    exact ln_least_order sp
  · obtain ⟨W, N0, ds, Pd, al, wn, ok, dd, sp, q⟩ := h
    have tm : PSs (cxOf CX0 P w K mg base ["desk", "order"] "least_order" (defScope s_least_order) T.f_least_order cdv A outer s H E).nox (defBody s_least_order) (lS ⟨K, W, N0, H, true⟩ (d_least_order T.C_Desk)) := ((ss_one (ds_retN (dn_call (ok_least_keeping T) hr (by rfl) T.g_least_keeping T.F_least_keeping.kp T.b_least_keeping pass0 (da_cons (PE.mono (pe_meth0 (dd_v (pv 0)) T.cl_Desk T.M_Desk_names (ok_Desk_names T) hr T.b_Desk_names .nil pass0) (l_meth0 rfl)) (da_cons (n_c (dn_call (ok_wish_of T) hr (by rfl) T.g_wish_of T.F_wish_of.kp T.b_wish_of pass0 (da_cons (dd_v (pv 0)) (da_cons (dd_v (pv 1)) da_nil)))) da_nil))))))
    exact ⟨_, tm, fn_d al wn ok dd q (rd_least_order sp)⟩
theorem ok_has_four_numbers (T : Txt K mg) {k : Nat} : FnOk P w K mg base CX0 (k + 1) T.f_has_four_numbers T.fd_has_four_numbers ["value"] (lSp K false sp_has_four_numbers) := by
  refine T.F_has_four_numbers.ok sc_has_four_numbers (fun vs H Q E h => ?_) (fun cdv A outer s H vs Q E hr h => ?_)
  · obtain ⟨W, N0, ds, Pd, _, _, _, dd, sp, _⟩ := h
    rw [dd.len]
    exact ln_has_four_numbers sp
  · obtain ⟨W, N0, ds, Pd, al, wn, ok, dd, sp, q⟩ := h
    have tm : PSs (cxOf CX0 P w K mg base ["value", "side"] "has_four_numbers" (defScope s_has_four_numbers) T.f_has_four_numbers cdv A outer s H E).nox (defBody s_has_four_numbers) (lS ⟨K, W, N0, H, false⟩ (d_has_four_numbers)) := ((ss_cons (ds_if (PW.pt (wt_or (dt_not (dt_val (dd_isi (by rfl) T.m_isinstance (c_b (dd_v (pv 0))) (pe_bltn (v := .ty "tuple") (by rfl) T.m_tuple (by decide +kernel) rfl)))) (wt_or1 (dt_ne hr (c_b (dd_len (by rfl) T.m_len (c_b (dd_v (pv 0))))) (c_b dd_int))))) (ss_one (ds_ret (by rfl) dd_bl)) ss_nil)
      (ss_one (ds_ret (by rfl) (dd_all (by rfl) T.m_all (c_b (n_c (PE.mono (pe_lc (own := [("side", 1)]) (by rfl) sc_has_four_numbers.nd (db_seq (c_b (dd_v (pv 0)))) (blkOk_by (own := [("side", 1)]) (N := ["value", "side"]) (sc := defScope s_has_four_numbers) (by decide +kernel)) (fun _ _ _ _ _ => (dg_name (i := 1) sc_has_four_numbers.nd rfl (Or.inl rfl))) (fun _ _ _ _ _ => ts_nil) (fun _ _ _ _ _ => (dd_isi (by rfl) T.m_isinstance (c_b (dd_v (pv 1))) (pe_bltn (v := .ty "int") (by rfl) T.m_int (by decide +kernel) rfl)))) (l_lc (by simp))))))))))
    exact ⟨_, tm, fn_d al wn ok dd q (rd_has_four_numbers sp)⟩
theorem ok_is_rectangle (T : Txt K mg) {k : Nat} : FnOk P w K mg base CX0 (k + 2) T.f_is_rectangle T.fd_is_rectangle ["rectangle"] (lSp K false sp_is_rectangle) := by
  refine T.F_is_rectangle.ok sc_is_rectangle (fun vs H Q E h => ?_) (fun cdv A outer s H vs Q E hr h => ?_)
  · obtain ⟨W, N0, ds, Pd, _, _, _, dd, sp, _⟩ := h
    rw [dd.len]
    exact ln_is_rectangle sp
  · obtain ⟨W, N0, ds, Pd, al, wn, ok, dd, sp, q⟩ := h
    have tm : PSs (cxOf CX0 P w K mg base ["rectangle", "left", "top", "right", "bottom", "side"] "is_rectangle" (defScope s_is_rectangle) T.f_is_rectangle cdv A outer s H E).nox (defBody s_is_rectangle) (lS ⟨K, W, N0, H, false⟩ (d_is_rectangle)) := ((ss_cons (ds_if (dt_not (dt_val (dd_call (ok_has_four_numbers T) hr (by rfl) T.g_has_four_numbers T.F_has_four_numbers.kp T.b_has_four_numbers pass0 (da_cons (dd_v (pv 0)) da_nil)))) (ss_one (ds_ret (by rfl) dd_bl)) ss_nil)
      (ss_cons (PS.mono (ps_asg (dd_v (pv 0)) (PG.mono (pg_tup (by rfl) (PGs.mono (pgs_cons (dg_name (i := 1) sc_is_rectangle.nd rfl (Or.inl rfl)) (PGs.mono (pgs_cons (dg_name (i := 2) sc_is_rectangle.nd rfl (Or.inl rfl)) (PGs.mono (pgs_cons (dg_name (i := 3) sc_is_rectangle.nd rfl (Or.inl rfl)) (PGs.mono (pgs_cons (dg_name (i := 4) sc_is_rectangle.nd rfl (Or.inl rfl)) dgs_nil) l_gcons)) l_gcons)) l_gcons)) l_gcons)) (l_gtup rfl))) l_asg)
      (ss_cons (ds_if (dt_not (dt_val (dd_all (by rfl) T.m_all (c_b (n_c (PE.mono (pe_lc (own := [("side", 5)]) (by rfl) sc_is_rectangle.nd (db_seq (c_b (dd_v (pv 0)))) (blkOk_by (own := [("side", 5)]) (N := ["rectangle", "left", "top", "right", "bottom", "side"]) (sc := defScope s_is_rectangle) (by decide +kernel)) (fun _ _ _ _ _ => (dg_name (i := 5) sc_is_rectangle.nd rfl (Or.inl rfl))) (fun _ _ _ _ _ => ts_nil) (fun _ _ _ _ _ => (dd_lele (c_b (dd_neg (c_lift (x := .int 1000000000) (pe_glob (v := .int 1000000000) (by rfl) T.c_MOST_COORDINATE ⟨_, rfl⟩) (fun _ _ _ _ => .int _)))) (c_b (dd_v (pv 5))) (c_b (c_lift (x := .int 1000000000) (pe_glob (v := .int 1000000000) (by rfl) T.c_MOST_COORDINATE ⟨_, rfl⟩) (fun _ _ _ _ => .int _)))))) (l_lc (by simp)))))))) (ss_one (ds_ret (by rfl) dd_bl)) ss_nil)
      (ss_one (ds_ret (by rfl) (dd_and (dd_lt (c_b (dd_v (pv 1))) (c_b (dd_v (pv 3)))) (dd_one (dd_lt (c_b (dd_v (pv 2))) (c_b (dd_v (pv 4))))))))))))
    exact ⟨_, tm, fn_d al wn ok dd q (rd_is_rectangle sp)⟩
theorem ok_covers (T : Txt K mg) {k : Nat} : FnOk P w K mg base CX0 (k + 1) T.f_covers T.fd_covers ["rectangle", "x", "y"] (lSp K false sp_covers) := by
  refine T.F_covers.ok sc_covers (fun vs H Q E h => ?_) (fun cdv A outer s H vs Q E hr h => ?_)
  · obtain ⟨W, N0, ds, Pd, _, _, _, dd, sp, _⟩ := h
    rw [dd.len]
    exact ln_covers sp
  · obtain ⟨W, N0, ds, Pd, al, wn, ok, dd, sp, q⟩ := h
    have tm : PSs (cxOf CX0 P w K mg base ["rectangle", "x", "y", "left", "top", "right", "bottom"] "covers" (defScope s_covers) T.f_covers cdv A outer s H E).nox (defBody s_covers) (lS ⟨K, W, N0, H, false⟩ (d_covers)) := ((ss_cons (PS.mono (ps_asg (dd_v (pv 0)) (PG.mono (pg_tup (by rfl) (PGs.mono (pgs_cons (dg_name (i := 3) sc_covers.nd rfl (Or.inl rfl)) (PGs.mono (pgs_cons (dg_name (i := 4) sc_covers.nd rfl (Or.inl rfl)) (PGs.mono (pgs_cons (dg_name (i := 5) sc_covers.nd rfl (Or.inl rfl)) (PGs.mono (pgs_cons (dg_name (i := 6) sc_covers.nd rfl (Or.inl rfl)) dgs_nil) l_gcons)) l_gcons)) l_gcons)) l_gcons)) (l_gtup rfl))) l_asg)
      (ss_one (ds_ret (by rfl) (dd_and (dd_lelt (c_b (dd_v (pv 3))) (c_b (dd_v (pv 1))) (c_b (dd_v (pv 5)))) (dd_one (dd_lelt (c_b (dd_v (pv 4))) (c_b (dd_v (pv 2))) (c_b (dd_v (pv 6))))))))))
    exact ⟨_, tm, fn_d al wn ok dd q (rd_covers sp)⟩
theorem ok_is_name (T : Txt K mg) {k : Nat} : FnOk P w K mg base CX0 (k + 1) T.f_is_name T.fd_is_name ["text"] (lSp K false sp_is_name) := by
  refine T.F_is_name.ok sc_is_name (fun vs H Q E h => ?_) (fun cdv A outer s H vs Q E hr h => ?_)
  · obtain ⟨W, N0, ds, Pd, _, _, _, dd, sp, _⟩ := h
    rw [dd.len]
    exact ln_is_name sp
  · obtain ⟨W, N0, ds, Pd, al, wn, ok, dd, sp, q⟩ := h
    have tm : PSs (cxOf CX0 P w K mg base ["text", "letter"] "is_name" (defScope s_is_name) T.f_is_name cdv A outer s H E).nox (defBody s_is_name) (lS ⟨K, W, N0, H, false⟩ (d_is_name)) := ((ss_cons (ds_if (PW.pt (wt_or (dt_not (dt_val (dd_isi (by rfl) T.m_isinstance (c_b (dd_v (pv 0))) (pe_bltn (v := .ty "str") (by rfl) T.m_str (by decide +kernel) rfl)))) (wt_or1 (dt_not (dt_lele (c_b dd_int) (c_b (dd_len (by rfl) T.m_len (c_b (dd_v (pv 0))))) (c_b (c_lift (x := .int 6) (pe_glob (v := .int 6) (by rfl) T.c_MOST_LETTERS ⟨_, rfl⟩) (fun _ _ _ _ => .int _)))))))) (ss_one (ds_ret (by rfl) dd_bl)) ss_nil)
      (ss_one (ds_ret (by rfl) (dd_all (by rfl) T.m_all (c_b (n_c (PE.mono (pe_lc (own := [("letter", 1)]) (by rfl) sc_is_name.nd (db_seq (c_b (dd_v (pv 0)))) (blkOk_by (own := [("letter", 1)]) (N := ["text", "letter"]) (sc := defScope s_is_name) (by decide +kernel)) (fun _ _ _ _ _ => (dg_name (i := 1) sc_is_name.nd rfl (Or.inl rfl))) (fun _ _ _ _ _ => ts_nil) (fun _ _ _ _ _ => (dd_in hr (c_b (dd_v (pv 1))) (c_b (c_lift (x := .str "abcdefghijklmnopqrstuvwxyz") (pe_glob (v := .str "abcdefghijklmnopqrstuvwxyz") (by rfl) T.c_LETTERS ⟨_, rfl⟩) (fun _ _ _ _ => .str _)))))) (l_lc (by simp))))))))))
    exact ⟨_, tm, fn_d al wn ok dd q (rd_is_name sp)⟩
theorem ok_check_windows (T : Txt K mg) {k : Nat} : FnOk P w K mg base CX0 (k + 3) T.f_check_windows T.fd_check_windows ["windows"] (lSp K false sp_check_windows) := by
  refine T.F_check_windows.ok sc_check_windows (fun vs H Q E h => ?_) (fun cdv A outer s H vs Q E hr h => ?_)
  · obtain ⟨W, N0, ds, Pd, _, _, _, dd, sp, _⟩ := h
    rw [dd.len]
    exact ln_check_windows sp
  · obtain ⟨W, N0, ds, Pd, al, wn, ok, dd, sp, q⟩ := h
    have tm : PSs (cxOf CX0 P w K mg base ["windows", "names", "name"] "check_windows" (defScope s_check_windows) T.f_check_windows cdv A outer s H E).nox (defBody s_check_windows) (lS ⟨K, W, N0, H, false⟩ (d_check_windows)) := ((ss_cons (ds_if (dt_not (dt_lele (c_b dd_int) (c_b (dd_len (by rfl) T.m_len (c_b (dd_v (pv 0))))) (c_b (c_lift (x := .int 24) (pe_glob (v := .int 24) (by rfl) T.c_MOST_WINDOWS ⟨_, rfl⟩) (fun _ _ _ _ => .int _))))) (ss_one ds_never) ss_nil)
      (ss_cons (ds_set (i := 1) sc_check_windows.nd rfl (.inl rfl) (n_c (dn_sort (by rfl) T.m_sorted (c_b (dd_v (pv 0))))))
      (ss_cons (ds_for PassesOwn.never rfl (di_seq (dd_v (pv 1))) (dg_name (i := 2) sc_check_windows.nd rfl (Or.inl rfl)) (ss_one (ds_if (dt_not (dt_val (dd_call (ok_is_name T) hr (by rfl) T.g_is_name T.F_is_name.kp T.b_is_name pass0 (da_cons (dd_v (pv 2)) da_nil)))) (ss_one ds_never) ss_nil)))
      (ss_one (ds_for PassesOwn.never rfl (di_seq (dd_v (pv 1))) (dg_name (i := 2) sc_check_windows.nd rfl (Or.inl rfl)) (ss_one (ds_if (dt_not (dt_val (dd_call (ok_is_rectangle T) hr (by rfl) T.g_is_rectangle T.F_is_rectangle.kp T.b_is_rectangle pass0 (da_cons (dd_ix hr (c_b (dd_v (pv 0))) (c_b (dd_v (pv 2)))) da_nil)))) (ss_one ds_never) ss_nil))))))))
    exact ⟨_, tm, fn_d al wn ok dd q (rd_check_windows sp)⟩
theorem ok_Desk___init (T : Txt K mg) {k : Nat} : FnOk P w K mg base CX0 (k + 4) T.f_Desk___init T.fd_Desk___init ["self", "windows"] (lInit K T.C_Desk "windows" sp_Desk___init) := by
  refine T.F_Desk___init.ok sc_Desk___init (fun vs H Q E h => ?_) (fun cdv A outer s H vs Q E hr h => ?_)
  · obtain ⟨W, N0, x, dx, us, ds, Pd, H1, rfl, _, _, _, _, _, _, _, dd, ⟨ws, rfl, _⟩, _⟩ := h
    rw [List.length_cons, dd.len]
    rfl
  · obtain ⟨W, N0, x, dx, us, ds, Pd, H1, rfl, nx, nd, ne, rfl, al, wn, ok, dd, sp, q⟩ := h
    have hl : us.length = 1 := by
      obtain ⟨ws, rfl, _⟩ := sp
      exact dd.len
    have tm : PSs (cxOf CX0 P w K mg base ["self", "windows", "name"] "Desk.__init__" (defScope s_Desk___init) T.f_Desk___init cdv A outer s (upd (upd H1 dx (.own x)) x (.ins T.C_Desk dx [])) E).nox (defBody s_Desk___init) (tSeq (tDrop (lC ⟨K, W, N0, H1, false⟩ (dCall sp_check_windows (aCons (dV 1) aNil)))) (sFld K (tVar 0) (lN ⟨K, W, N0, H1, false⟩ (dDc (iSeq (dSort (dV 1))) (gNm 2) tYesD (dV 2) (dO2 bIx (dV 1) (dV 2)) [2])) "windows")) := pss_cons (ps_expr (dd_call (ok_check_windows T) hr (by rfl) T.g_check_windows T.F_check_windows.kp T.b_check_windows pass0 (da_cons (dd_v (pv 1)) da_nil))) (pss_one (ps_fld (pv 0) (PE.mono (pe_dc (own := [("name", 2)]) (by rfl) sc_Desk___init.nd (db_seq (c_b (n_c (dn_sort (by rfl) T.m_sorted (c_b (dd_v (pv 1))))))) (blkOk_by (own := [("name", 2)]) (N := ["self", "windows", "name"]) (sc := defScope s_Desk___init) (by decide +kernel)) (fun _ _ _ _ _ => (dg_name (i := 2) sc_Desk___init.nd rfl (Or.inl rfl))) (fun _ _ _ _ _ => ts_nil) (fun _ _ _ _ _ => (dd_v (pv 2))) (fun _ _ _ _ _ => (dd_ix hr (c_b (dd_v (pv 1))) (c_b (dd_v (pv 2)))))) (l_dc (by simp))) rfl))
    exact ⟨_, tm, init1 T.cl_Desk T.n_Desk_windows nx nd ne al wn ok dd (by rw [hl]; decide) q (rd_Desk___init sp)⟩
theorem ok_covering (T : Txt K mg) {k : Nat} : FnOk P w K mg base CX0 (k + 2) T.f_covering T.fd_covering ["desk", "names", "x", "y"] (lSp K true (sp_covering T.C_Desk)) := by
  refine T.F_covering.ok sc_covering (fun vs H Q E h => ?_) (fun cdv A outer s H vs Q E hr h => ?_)
  · obtain ⟨W, N0, ds, Pd, _, _, _, dd, sp, _⟩ := h
    rw [dd.len]
    exact ln_covering sp
  · obtain ⟨W, N0, ds, Pd, al, wn, ok, dd, sp, q⟩ := h
    have tm : PSs (cxOf CX0 P w K mg base ["desk", "names", "x", "y", "name"] "covering" (defScope s_covering) T.f_covering cdv A outer s H E).nox (defBody s_covering) (lS ⟨K, W, N0, H, true⟩ (d_covering T.C_Desk)) := ((ss_one (ds_retN (PE.mono (pe_lc (own := [("name", 4)]) (by rfl) sc_covering.nd (db_seq (c_b (dd_v (pv 1)))) (blkOk_by (own := [("name", 4)]) (N := ["desk", "names", "x", "y", "name"]) (sc := defScope s_covering) (by decide +kernel)) (fun _ _ _ _ _ => (dg_name (i := 4) sc_covering.nd rfl (Or.inl rfl))) (fun _ _ _ _ _ => (ts_one (dt_val (dd_call (ok_covers T) hr (by rfl) T.g_covers T.F_covers.kp T.b_covers pass0 (da_cons (PE.mono (pe_meth (dd_v (pv 0)) T.cl_Desk T.M_Desk_rectangle (ok_Desk_rectangle T) hr T.b_Desk_rectangle .nil pass0 (da_cons (dd_v (pv 4)) da_nil)) (l_meth rfl)) (da_cons (dd_v (pv 2)) (da_cons (dd_v (pv 3)) da_nil))))))) (fun _ _ _ _ _ => (dd_v (pv 4)))) (l_lc (by simp))))))
    exact ⟨_, tm, fn_d al wn ok dd q (rd_covering sp)⟩
theorem ok_top_window (T : Txt K mg) {k : Nat} : FnOk P w K mg base CX0 (k + 3) T.f_top_window T.fd_top_window ["desk", "order", "x", "y"] (lSp K false (sp_top_window T.C_Desk)) := by
  refine T.F_top_window.ok sc_top_window (fun vs H Q E h => ?_) (fun cdv A outer s H vs Q E hr h => ?_)
  · obtain ⟨W, N0, ds, Pd, _, _, _, dd, sp, _⟩ := h
    rw [dd.len]
    exact ln_top_window sp
  · obtain ⟨W, N0, ds, Pd, al, wn, ok, dd, sp, q⟩ := h
    have tm : PSs (cxOf CX0 P w K mg base ["desk", "order", "x", "y", "found"] "top_window" (defScope s_top_window) T.f_top_window cdv A outer s H E).nox (defBody s_top_window) (lS ⟨K, W, N0, H, false⟩ (d_top_window T.C_Desk)) := ((ss_cons (ds_set (i := 4) sc_top_window.nd rfl (.inl rfl) (n_c (dn_call (ok_covering T) hr (by rfl) T.g_covering T.F_covering.kp T.b_covering pass0 (da_cons (dd_v (pv 0)) (da_cons (dd_v (pv 1)) (da_cons (dd_v (pv 2)) (da_cons (dd_v (pv 3)) da_nil)))))))
      (ss_one (ds_ret (by rfl) (dd_if (dt_tru (c_b (dd_v (pv 4)))) (dd_ix hr (c_b (dd_v (pv 4))) (c_b (dd_neg dd_int))) dd_non)))))
    exact ⟨_, tm, fn_d al wn ok dd q (rd_top_window sp)⟩
theorem ok_seen (T : Txt K mg) {k : Nat} : FnOk P w K mg base CX0 (k + 4) T.f_seen T.fd_seen ["desk", "order", "x", "y"] (lSp K false (sp_seen T.C_Desk)) := by
  refine T.F_seen.ok sc_seen (fun vs H Q E h => ?_) (fun cdv A outer s H vs Q E hr h => ?_)
  · obtain ⟨W, N0, ds, Pd, _, _, _, dd, sp, _⟩ := h
    rw [dd.len]
    exact ln_seen sp
  · obtain ⟨W, N0, ds, Pd, al, wn, ok, dd, sp, q⟩ := h
    have tm : PSs (cxOf CX0 P w K mg base ["desk", "order", "x", "y"] "seen" (defScope s_seen) T.f_seen cdv A outer s H E).nox (defBody s_seen) (lS ⟨K, W, N0, H, false⟩ (d_seen T.C_Desk)) := ((ss_cons (ds_expr (dd_call (ok_check_order T) hr (by rfl) T.g_check_order T.F_check_order.kp T.b_check_order pass0 (da_cons (dd_v (pv 0)) (da_cons (dd_v (pv 1)) da_nil))))
      (ss_one (ds_ret (by rfl) (dd_call (ok_top_window T) hr (by rfl) T.g_top_window T.F_top_window.kp T.b_top_window pass0 (da_cons (dd_v (pv 0)) (da_cons (dd_v (pv 1)) (da_cons (dd_v (pv 2)) (da_cons (dd_v (pv 3)) da_nil)))))))))
    exact ⟨_, tm, fn_d al wn ok dd q (rd_seen sp)⟩
theorem ok_band_runs (T : Txt K mg) {k : Nat} : FnOk P w K mg base CX0 (k + 4) T.f_band_runs T.fd_band_runs ["desk", "order", "columns", "y"] (lSp K true (sp_band_runs T.C_Desk)) := by
  refine T.F_band_runs.ok sc_band_runs (fun vs H Q E h => ?_) (fun cdv A outer s H vs Q E hr h => ?_)
  · obtain ⟨W, N0, ds, Pd, _, _, _, dd, sp, _⟩ := h
    rw [dd.len]
    exact ln_band_runs sp
  · obtain ⟨W, N0, ds, Pd, al, wn, ok, dd, sp, q⟩ := h
    have tm : PSs (cxOf CX0 P w K mg base ["desk", "order", "columns", "y", "runs", "left", "right", "name"] "band_runs" (defScope s_band_runs) T.f_band_runs cdv A outer s H E).nox (defBody s_band_runs) (lS ⟨K, W, N0, H, true⟩ (d_band_runs T.C_Desk)) := ((ss_cons (ds_setO (i := 4) sc_band_runs.nd rfl (.inl rfl) (dn_lst da_nil))
      (ss_cons (ds_for PassesOwn.never rfl (di_zip (by rfl) T.m_zip (dd_v (pv 2)) (dd_cut (c_b (dd_v (pv 2))) (do_some dd_int) do_none)) (PG.mono (pg_tup (by rfl) (PGs.mono (pgs_cons (dg_name (i := 5) sc_band_runs.nd rfl (Or.inl rfl)) (PGs.mono (pgs_cons (dg_name (i := 6) sc_band_runs.nd rfl (Or.inl rfl)) dgs_nil) l_gcons)) l_gcons)) (l_gtup rfl)) (ss_cons (ds_set (i := 7) sc_band_runs.nd rfl (.inl rfl) (dd_call (ok_top_window T) hr (by rfl) T.g_top_window T.F_top_window.kp T.b_top_window pass0 (da_cons (dd_v (pv 0)) (da_cons (dd_v (pv 1)) (da_cons (dd_v (pv 5)) (da_cons (dd_v (pv 3)) da_nil))))))
      (ss_cons (ds_if (dt_is (c_b (dd_v (pv 7))) (c_b dd_non)) (ss_one ds_cont) ss_nil)
      (ss_one (ds_if (PW.pt (wt_and (dt_tru (dd_b (pv 4))) (wt_and1 (dt_eq hr (c_b (dd_cut (c_b (dd_ix hr (dd_b (pv 4)) (c_b (dd_neg dd_int)))) (do_some dd_int) do_none)) (c_b (n_c (dn_tup (da_cons (dd_v (pv 5)) (da_cons (dd_v (pv 7)) da_nil))))))))) (ss_one (PS.mono (ps_asg (n_c (dn_tup (da_cons (dd_ix hr (c_b (dd_ix hr (dd_b (pv 4)) (c_b (dd_neg dd_int)))) (c_b dd_int)) (da_cons (dd_v (pv 6)) (da_cons (dd_v (pv 7)) da_nil))))) (pg_sub (pv 4) (dd_neg dd_int) L2.set_list)) l_put)) (ss_one (ds_app (pv 4) (n_c (dn_tup (da_cons (dd_v (pv 5)) (da_cons (dd_v (pv 6)) (da_cons (dd_v (pv 7)) da_nil))))))))))))
      (ss_one (ds_retO (pv 4))))))
    exact ⟨_, tm, fn_d al wn ok dd q (rd_band_runs sp)⟩
theorem ok_tiles (T : Txt K mg) {k : Nat} : FnOk P w K mg base CX0 (k + 5) T.f_tiles T.fd_tiles ["desk", "order"] (lSp K true (sp_tiles T.C_Desk)) := by
  refine T.F_tiles.ok sc_tiles (fun vs H Q E h => ?_) (fun cdv A outer s H vs Q E hr h => ?_)
  · obtain ⟨W, N0, ds, Pd, _, _, _, dd, sp, _⟩ := h
    rw [dd.len]
    exact ln_tiles sp
  · obtain ⟨W, N0, ds, Pd, al, wn, ok, dd, sp, q⟩ := h
    have tm : PSs (cxOf CX0 P w K mg base ["desk", "order", "rectangles", "columns", "rows", "found", "top", "bottom", "runs", "name", "rectangle", "side", "left", "right"] "tiles" (defScope s_tiles) T.f_tiles cdv A outer s H E).nox (defBody s_tiles) (lS ⟨K, W, N0, H, true⟩ (d_tiles T.C_Desk)) := ((ss_cons (ds_expr (dd_call (ok_check_order T) hr (by rfl) T.g_check_order T.F_check_order.kp T.b_check_order pass0 (da_cons (dd_v (pv 0)) (da_cons (dd_v (pv 1)) da_nil))))
      (ss_cons (PS.mono (ps_setLc (i := 2) (own := [("name", 9)]) (by rfl) sc_tiles.nd rfl rfl (sw_true rfl rfl rfl (by decide +kernel)) (db_seq (c_b (dd_v (pv 1)))) (blkOk_by (own := [("name", 9)]) (N := ["desk", "order", "rectangles", "columns", "rows", "found", "top", "bottom", "runs", "name", "rectangle", "side", "left", "right"]) (sc := defScope s_tiles) (by decide +kernel)) (fun _ _ _ _ _ => (dg_name (i := 9) sc_tiles.nd rfl (Or.inl rfl))) (fun _ _ _ _ _ => ts_nil) (fun _ _ _ _ _ => (PE.mono (pe_meth (dd_v (pv 0)) T.cl_Desk T.M_Desk_rectangle (ok_Desk_rectangle T) hr T.b_Desk_rectangle .nil pass0 (da_cons (dd_v (pv 9)) da_nil)) (l_meth rfl)))) (l_setF_n (l_lc (by simp))))
      (ss_cons (ds_set (i := 3) sc_tiles.nd rfl (.inl rfl) (n_c (PE.mono (RK.pe_sortSc2 (own := [("rectangle", 10), ("side", 11)]) (vs1 := [11]) (by rfl) (by rfl) T.m_sorted sc_tiles.nd (db_seq (c_b (dd_v (pv 2)))) (blkOk_by (own := [("rectangle", 10), ("side", 11)]) (N := ["desk", "order", "rectangles", "columns", "rows", "found", "top", "bottom", "runs", "name", "rectangle", "side", "left", "right"]) (sc := defScope s_tiles) (by decide +kernel)) (by simp) (fun _ _ _ _ _ => (dg_name (i := 10) sc_tiles.nd rfl (Or.inl rfl))) (fun _ _ _ _ _ => ts_nil) (fun _ _ _ _ _ => (di_seq (n_c (dn_tup (da_cons (dd_ix hr (c_b (dd_v (pv 10))) (c_b dd_int)) (da_cons (dd_ix hr (c_b (dd_v (pv 10))) (c_b dd_int)) da_nil)))))) (fun _ _ _ _ _ => (dg_name (i := 11) sc_tiles.nd rfl (Or.inl rfl))) (fun _ _ _ _ _ => ts_nil) (fun _ _ _ _ _ => (dd_v (pv 11)))) (l_ss (by simp) (by simp)))))
      (ss_cons (ds_set (i := 4) sc_tiles.nd rfl (.inl rfl) (n_c (PE.mono (RK.pe_sortSc2 (own := [("rectangle", 10), ("side", 11)]) (vs1 := [11]) (by rfl) (by rfl) T.m_sorted sc_tiles.nd (db_seq (c_b (dd_v (pv 2)))) (blkOk_by (own := [("rectangle", 10), ("side", 11)]) (N := ["desk", "order", "rectangles", "columns", "rows", "found", "top", "bottom", "runs", "name", "rectangle", "side", "left", "right"]) (sc := defScope s_tiles) (by decide +kernel)) (by simp) (fun _ _ _ _ _ => (dg_name (i := 10) sc_tiles.nd rfl (Or.inl rfl))) (fun _ _ _ _ _ => ts_nil) (fun _ _ _ _ _ => (di_seq (n_c (dn_tup (da_cons (dd_ix hr (c_b (dd_v (pv 10))) (c_b dd_int)) (da_cons (dd_ix hr (c_b (dd_v (pv 10))) (c_b dd_int)) da_nil)))))) (fun _ _ _ _ _ => (dg_name (i := 11) sc_tiles.nd rfl (Or.inl rfl))) (fun _ _ _ _ _ => ts_nil) (fun _ _ _ _ _ => (dd_v (pv 11)))) (l_ss (by simp) (by simp)))))
      (ss_cons (ds_setO (i := 5) sc_tiles.nd rfl (.inl rfl) (dn_lst da_nil))
      (ss_cons (ds_for PassesOwn.never rfl (di_zip (by rfl) T.m_zip (dd_v (pv 4)) (dd_cut (c_b (dd_v (pv 4))) (do_some dd_int) do_none)) (PG.mono (pg_tup (by rfl) (PGs.mono (pgs_cons (dg_name (i := 6) sc_tiles.nd rfl (Or.inr rfl)) (PGs.mono (pgs_cons (dg_name (i := 7) sc_tiles.nd rfl (Or.inr rfl)) dgs_nil) l_gcons)) l_gcons)) (l_gtup rfl)) (ss_cons (ds_set (i := 8) sc_tiles.nd rfl (.inl rfl) (n_c (dn_call (ok_band_runs T) hr (by rfl) T.g_band_runs T.F_band_runs.kp T.b_band_runs pass0 (da_cons (dd_v (pv 0)) (da_cons (dd_v (pv 1)) (da_cons (dd_v (pv 3)) (da_cons (dd_v (pv 6)) da_nil)))))))
      (ss_one (ds_ext (pv 5) (c_b (n_c (PE.mono (pe_lc (own := [("left", 12), ("right", 13), ("name", 9)]) (by rfl) sc_tiles.nd (db_seq (c_b (dd_v (pv 8)))) (blkOk_by (own := [("left", 12), ("right", 13), ("name", 9)]) (N := ["desk", "order", "rectangles", "columns", "rows", "found", "top", "bottom", "runs", "name", "rectangle", "side", "left", "right"]) (sc := defScope s_tiles) (by decide +kernel)) (fun _ _ _ _ _ => (PG.mono (pg_tup (by rfl) (PGs.mono (pgs_cons (dg_name (i := 12) sc_tiles.nd rfl (Or.inl rfl)) (PGs.mono (pgs_cons (dg_name (i := 13) sc_tiles.nd rfl (Or.inl rfl)) (PGs.mono (pgs_cons (dg_name (i := 9) sc_tiles.nd rfl (Or.inl rfl)) dgs_nil) l_gcons)) l_gcons)) l_gcons)) (l_gtup rfl))) (fun _ _ _ _ _ => ts_nil) (fun _ _ _ _ _ => (n_c (dn_tup (da_cons (n_c (dn_tup (da_cons (dd_v (pv 12)) (da_cons (dd_v (pv 6)) (da_cons (dd_v (pv 13)) (da_cons (dd_v (pv 7)) da_nil)))))) (da_cons (dd_v (pv 9)) da_nil)))))) (l_lc (by simp)))))))))
      (ss_one (ds_retO (pv 5))))))))))
    exact ⟨_, tm, fn_d al wn ok dd q (rd_tiles sp)⟩
theorem okb_bag (T : Txt K mg) {k : Nat} : FnOk P w K mg base CX0 (k + 1) T.f_bag T.fd_bag ["_law_script"] (spBag K) := by
  refine T.F_bag.ok sc_bag (fun vs H Q E h => ?_) (fun cdv A outer s H vs Q E hr h => ?_)
  · obtain ⟨a, ns, rfl, _⟩ := h
    rfl
  · obtain ⟨a, ns, rfl, hS, hlen, q⟩ := h
    refine ⟨_, (pss_cons (ps_set (i := 1) sc_bag.nd rfl (.inl rfl) pe_int)
      (pss_cons (ps_for PassesOwn.never rfl (pi_list (pe_slice (r := rSlL K) sl_list (pv 0) po_none (po_some pe_int))) (pg_name (i := 2) sc_bag.nd rfl (.inl rfl)) (pss_one (ps_set (i := 1) sc_bag.nd rfl (.inl rfl) (pe_op op_mod (pe_op op_add (pe_op op_add (pe_op op_mul (pv 1) pe_int) (pe_op op_mod (pv 2) pe_int)) pe_int) pe_int))))
      (pss_one (ps_ret (pe_lst (pa_cons (pe_callTy (T := "list") (r := RK.rListQ K) RK.call_listQ (by rfl) T.m_list (by decide +kernel) (pa_cons (pe_slice (r := rSlL K) sl_list (pv 0) po_none (po_some pe_int)) pa_nil)) (pa_cons pe_int (pa_cons pe_int (pa_cons (pv 1) pa_nil))))))))), ?_⟩
    refine ⟨.ref a, rfl, 63, rfl, a, _, rfl, hS, fun p np => ?_⟩
    rw [cut63 ns hlen]
    have s1 : Same H (upd H p (.lst (ns.map V.int))) := same_new np _
    refine ⟨p, rfl, ⟨_, .inl (.inl upd_same)⟩, for_list (xs := ns.map V.int) (fun _ σ H' => ∃ z y2, σ = [some (.ref a), some (.int z), y2] ∧ 0 ≤ z ∧ z < 2147483647 ∧ H' = upd H p (.lst (ns.map V.int))) ⟨9489, none, rfl, by decide, by decide, rfl⟩ ?_ ?_ ?_⟩
    · rintro i σ H' _ ⟨z, y2, rfl, _, _, rfl⟩
      exact .inl (.inl upd_same)
    · rintro i x σ H' hx ⟨z, y2, rfl, z0, z1, rfl⟩
      rw [List.getElem?_map] at hx
      obtain ⟨c, hc, rfl⟩ := Option.map_eq_some_iff.mp hx
      refine ⟨.int z, rfl, _, _, rfl, rfl, .inl ⟨by omega, by omega⟩, .int c, rfl, _, _, rfl, rfl, (show (0 : Int) < 2147483587 by decide), _, _, rfl, rfl, _, _, rfl, rfl, _, _, rfl, rfl, (show (0 : Int) < 2147483647 by decide), _, _, rfl, Int.emod_nonneg _ (by decide), Int.emod_lt_of_pos _ (by decide), rfl⟩
    · rintro σ H' ⟨z, y2, rfl, z0, z1, rfl⟩
      refine ⟨.ref a, rfl, 63, rfl, a, _, rfl, s1.seq hS, fun p2 np2 => ?_⟩
      rw [cut63 ns hlen]
      have s2 := same_new np2 (.lst (ns.map V.int))
      refine ⟨p2, _, rfl, .inl (.inl (.inl upd_same)), fun l nl => ?_⟩
      have s3 := same_new nl (.lst (ns.map V.int))
      refine ⟨.int z, rfl, (by show 4 ≤ sizeLine; decide), fun b nb => ?_⟩
      have s4 := same_new nb (.lst [.ref l, .int 0, .int 0, .int z])
      have st : Same H _ := ((s1.trans s2).trans s3).trans s4
      refine q _ b l st (((s1.trans s2).trans s3).free nb) ((s1.trans s2).free nl) ⟨ns, 0, 0, z, upd_same, s4 _ _ upd_same, ne_of_none upd_same nb, Nat.zero_le _, hlen, by decide, z0, z1⟩
theorem okb_pull (T : Txt K mg) {k : Nat} : FnOk P w K mg base CX0 (k + 1) T.f_pull T.fd_pull ["_law_bag_here", "_law_amount"] spPull := by
  refine T.F_pull.ok sc_pull (fun vs H Q E h => ?_) (fun cdv A outer s H vs Q E hr h => ?_)
  · obtain ⟨b, s, n, rfl, _⟩ := h
    rfl
  · obtain ⟨b, s, n, rfl, B, n1, n2, q⟩ := h
    obtain ⟨ns, i, big, salt, B⟩ := B
    refine ⟨_, (C8.pss_cut (ps_if (PW.pt (pw_and (pt_cmpR op_eq (pe_ix (r := rIxL K) ix_list (pv 0) pe_int (fun _ _ => rfl)) pe_int (nomark _)) (pw_and1 (pt_cmpR op_lt (pe_ix (r := rIxL K) ix_list (pv 0) pe_int (fun _ _ => rfl)) (pe_callB (id := "len") (r := RK.rLenQ K) RK.call_lenQ (by rfl) T.m_len (by decide +kernel) (pa_cons (pe_ix (r := rIxL K) ix_list (pv 0) pe_int (fun _ _ => rfl)) pa_nil)) (nomark _))))) (pss_cons (ps_set (i := 2) sc_pull.nd rfl (.inl rfl) (pe_ix (r := rIxL K) ix_list (pe_ix (r := rIxL K) ix_list (pv 0) pe_int (fun _ _ => rfl)) (pe_ix (r := rIxL K) ix_list (pv 0) pe_int (fun _ _ => rfl)) (fun _ _ => rfl)))
      (pss_cons (ps_asg (pe_op op_add (pe_ix (r := rIxL K) ix_list (pv 0) pe_int (fun _ _ => rfl)) pe_int) (pg_sub (pv 0) pe_int L2.set_list))
      (pss_one (ps_if (pt_cmpR op_ge (pv 2) (pe_op op_pow pe_int pe_int) (nomark _)) (pss_one (ps_asg (pv 2) (pg_sub (pv 0) pe_int L2.set_list))) (pss_one (ps_asg (pe_op op_mod (pe_op op_add (pe_op op_add (pe_op op_mul (pe_ix (r := rIxL K) ix_list (pv 0) pe_int (fun _ _ => rfl)) pe_int) (pe_op op_mul (pe_op op_mod (pv 2) pe_int) pe_int)) pe_int) pe_int) (pg_sub (pv 0) pe_int L2.set_list))))))) pss_nil)
      (pss_cons (ps_if (pt_cmpR op_gt (pe_ix (r := rIxL K) ix_list (pv 0) pe_int (fun _ _ => rfl)) pe_int (nomark _)) (pss_cons (ps_set (i := 3) sc_pull.nd rfl (.inl rfl) (pe_op op_mod (pe_ix (r := rIxL K) ix_list (pv 0) pe_int (fun _ _ => rfl)) (pv 1)))
      (pss_cons (ps_asg (pe_op op_fdivW (pe_ix (r := rIxL K) ix_list (pv 0) pe_int (fun _ _ => rfl)) (pv 1)) (pg_sub (pv 0) pe_int L2.set_list))
      (pss_one (ps_ret (pv 3))))) pss_nil)
      (pss_cons (ps_set (i := 4) sc_pull.nd rfl (.inl rfl) (pe_ix (r := rIxL K) ix_list (pv 0) pe_int (fun _ _ => rfl)))
      (pss_cons (ps_asg (pe_op op_mod (pe_op op_add (pe_op op_add (pe_op op_mul (pv 4) (pv 4)) (pe_op op_mul (pv 4) pe_int)) pe_int) pe_int) (pg_sub (pv 0) pe_int L2.set_list))
      (pss_one (ps_ret (pe_op op_mod (pe_op op_add (pe_op op_fdivW (pe_ix (r := rIxL K) ix_list (pv 0) pe_int (fun _ _ => rfl)) pe_int) (pe_op op_mul (pe_op op_mod (pe_ix (r := rIxL K) ix_list (pv 0) pe_int (fun _ _ => rfl)) pe_int) pe_int)) (pv 1)))))))), ?_⟩
    refine ⟨fun σ H' => ∃ y2, σ = [some (.ref b), some (.int n), y2, none, none] ∧ KeepT b H H' ∧ ∃ i big salt, BagC H' b s ns i big salt, ?_, ?_⟩
    · -- the first if
      refine ⟨.ref b, rfl, b, _, 2, _, rfl, rfl, SqL.of B.hb, at2, rfl, _, rfl, ite2 (fun c => ?_) (fun c => ?_)⟩
      · refine ⟨.ref b, rfl, b, _, 1, _, rfl, rfl, SqL.of B.hb, at1, .ref b, rfl, b, _, 0, _, rfl, rfl, SqL.of B.hb, at0, s, _, rfl, .inl (SqL.of B.hs), _, _, rfl, rfl, _, rfl, ite2 (fun c2 => ?_) (fun c2 => ?_)⟩
        · have hi : i < ns.length := by
            have := of_decide_eq_true c2
            rw [List.length_map] at this
            omega
          have g : (ns.map V.int)[i]? = some (.int ns[i]) := by
            rw [List.getElem?_map, List.getElem?_eq_getElem hi]
            rfl
          refine ⟨.ref b, rfl, b, _, 0, _, rfl, rfl, SqL.of B.hb, at0, .ref b, rfl, b, _, 1, _, rfl, rfl, SqL.of B.hb, at1, s, _, _, _, rfl, rfl, SqL.of B.hs, atI_nat g, ?_⟩
          refine ⟨.ref b, rfl, b, _, 1, _, rfl, rfl, SqL.of B.hb, at1, _, _, rfl, rfl, .ref b, rfl, b, _, 1, 1, rfl, rfl, B.hb, rfl, ?_⟩
          have k1 : KeepT b H (upd H b (.lst [.ref s, .int (↑i + 1), .int big, .int salt])) := (KeepT.refl b H).upd
          have hs1 : (upd H b (.lst [.ref s, .int (↑i + 1), .int big, .int salt])) s = some (.lst (ns.map V.int)) := by rw [upd_ne B.ne]; exact B.hs
          refine ⟨.int ns[i], rfl, _, _, rfl, rfl, ⟨by decide, by decide, by decide⟩, _, _, rfl, rfl, _, rfl, ite2 (fun c3 => ?_) (fun c3 => ?_)⟩
          · have hc : 0 ≤ ns[i] := by
              have h3 := of_decide_eq_true c3
              have h4 : ((10 : Int) ^ (18 : Int).toNat) = 1000000000000000000 := by decide
              rw [h4] at h3
              omega
            refine ⟨.int ns[i], rfl, .ref b, rfl, b, _, 2, 2, rfl, rfl, upd_same, rfl, ?_⟩
            refine ⟨_, rfl, k1.upd, i + 1, ns[i], salt, ⟨?_, ?_, B.ne, hi, B.hn, hc, B.h1, B.h2⟩⟩
            · rw [upd_same]; rfl
            · rw [upd_ne B.ne]; exact hs1
          · refine ⟨.ref b, rfl, b, _, 3, _, rfl, rfl, SqL.of upd_same, at3, _, _, rfl, rfl, .inr ⟨by decide, by decide⟩, .int ns[i], rfl, _, _, rfl, rfl, (show (0 : Int) < 2147483587 by decide), _, _, rfl, rfl, .inr ⟨by decide, by decide⟩, _, _, rfl, rfl, _, _, rfl, rfl, _, _, rfl, rfl, (show (0 : Int) < 2147483647 by decide), .ref b, rfl, b, _, 3, 3, rfl, rfl, upd_same, rfl, ?_⟩
            refine ⟨_, rfl, k1.upd, i + 1, big, (salt * 40692 + ns[i] % 2147483587 * 48271 + 7) % 2147483647, ⟨?_, ?_, B.ne, hi, B.hn, B.h0, Int.emod_nonneg _ (show (2147483647 : Int) ≠ 0 by decide), Int.emod_lt_of_pos _ (show (0 : Int) < 2147483647 by decide)⟩⟩
            · rw [upd_same]; rfl
            · rw [upd_ne B.ne]; exact hs1
        · exact ⟨_, rfl, KeepT.refl b H, i, big, salt, B⟩
      · exact ⟨_, rfl, KeepT.refl b H, i, big, salt, B⟩
    · rintro σ H1 ⟨y2, rfl, k1, i, big, salt, B⟩
      refine ⟨.ref b, rfl, b, _, 2, _, rfl, rfl, SqL.of B.hb, at2, _, _, rfl, rfl, _, rfl, ite2 (fun c => ?_) (fun c => ?_)⟩
      · refine ⟨.ref b, rfl, b, _, 2, _, rfl, rfl, SqL.of B.hb, at2, .int n, rfl, _, _, rfl, rfl, (show (0 : Int) < n by omega), .ref b, rfl, b, _, 2, _, rfl, rfl, SqL.of B.hb, at2, .int n, rfl, _, _, rfl, rfl, cdivw n1 n2, .ref b, rfl, b, _, 2, 2, rfl, rfl, B.hb, rfl, .int (big % n), rfl, ?_⟩
        refine q _ _ (Int.emod_nonneg _ (by omega)) (Int.emod_lt_of_pos _ (by omega)) k1.upd ⟨ns, i, big / n, salt, ?_, ?_, B.ne, B.hi, B.hn, Int.ediv_nonneg B.h0 (by omega), B.h1, B.h2⟩
        · rw [upd_same]; rfl
        · rw [upd_ne B.ne]; exact B.hs
      · have h1 := B.h1
        have h2 := B.h2
        refine ⟨.ref b, rfl, b, _, 3, _, rfl, rfl, SqL.of B.hb, at3, .int salt, rfl, .int salt, rfl, _, _, rfl, rfl, .inl ⟨by omega, by omega⟩, .int salt, rfl, _, _, rfl, rfl, .inl ⟨by omega, by omega⟩, _, _, rfl, rfl, _, _, rfl, rfl, _, _, rfl, rfl, (show (0 : Int) < 2147483647 by decide), .ref b, rfl, b, _, 3, 3, rfl, rfl, B.hb, rfl, ?_⟩
        refine ⟨.ref b, rfl, b, _, 3, _, rfl, rfl, SqL.of upd_same, at3, _, _, rfl, rfl, cdivw (n := 89) (by decide) (by decide), .ref b, rfl, b, _, 3, _, rfl, rfl, SqL.of upd_same, at3, _, _, rfl, rfl, (show (0 : Int) < 8191 by decide), _, _, rfl, rfl, .inr ⟨by decide, by decide⟩, _, _, rfl, rfl, .int n, rfl, _, _, rfl, rfl, (show (0 : Int) < n by omega), ?_⟩
        refine q _ _ (Int.emod_nonneg _ (by omega)) (Int.emod_lt_of_pos _ (by omega)) k1.upd ⟨ns, i, big, (salt * salt + salt * 69621 + 1013904223) % 2147483647, ?_, ?_, B.ne, B.hi, B.hn, B.h0, Int.emod_nonneg _ (show (2147483647 : Int) ≠ 0 by decide), Int.emod_lt_of_pos _ (show (0 : Int) < 2147483647 by decide)⟩
        · rw [upd_same]; rfl
        · rw [upd_ne B.ne]; exact B.hs
theorem ok_pull (T : Txt K mg) {k : Nat} : FnOk P w K mg base CX0 (k + 1) T.f_pull T.fd_pull ["_law_bag_here", "_law_amount"] (lSp K false sp_pull) := pull_d (okb_pull T)
theorem ok_of (T : Txt K mg) {k : Nat} : FnOk P w K mg base CX0 (k + 2) T.f_of T.fd_of ["_law_bag_here", "_law_things"] (lSp K false sp_of) := by
  refine T.F_of.ok sc_of (fun vs H Q E h => ?_) (fun cdv A outer s H vs Q E hr h => ?_)
  · obtain ⟨W, N0, ds, Pd, _, _, _, dd, sp, _⟩ := h
    rw [dd.len]
    exact ln_of sp
  · obtain ⟨W, N0, ds, Pd, al, wn, ok, dd, sp, q⟩ := h
    have tm : PSs (cxOf CX0 P w K mg base ["_law_bag_here", "_law_things"] "_law_of" (defScope s_of) T.f_of cdv A outer s H E).nox (defBody s_of) (lS ⟨K, W, N0, H, false⟩ (d_of)) := ((ss_one (ds_ret (by rfl) (dd_ix hr (c_b (dd_v (pv 1))) (c_b (dd_call (ok_pull T) hr (by rfl) T.g_pull T.F_pull.kp T.b_pull pass0 (da_cons (dd_v (pv 0)) (da_cons (dd_len (by rfl) T.m_len (c_b (dd_v (pv 1)))) da_nil))))))))
    exact ⟨_, tm, fn_d al wn ok dd q (rd_of sp)⟩
theorem ok_mixed (T : Txt K mg) {k : Nat} : FnOk P w K mg base CX0 (k + 2) T.f_mixed T.fd_mixed ["_law_bag_here", "_law_things"] (lSp K true sp_mixed) := by
  refine T.F_mixed.ok sc_mixed (fun vs H Q E h => ?_) (fun cdv A outer s H vs Q E hr h => ?_)
  · obtain ⟨W, N0, ds, Pd, _, _, _, dd, sp, _⟩ := h
    rw [dd.len]
    exact ln_mixed sp
  · obtain ⟨W, N0, ds, Pd, al, wn, ok, dd, sp, q⟩ := h
    have tm : PSs (cxOf CX0 P w K mg base ["_law_bag_here", "_law_things", "_law_found", "_law_thing"] "_law_mixed" (defScope s_mixed) T.f_mixed cdv A outer s H E).nox (defBody s_mixed) (lS ⟨K, W, N0, H, true⟩ (d_mixed)) := ((ss_cons (ds_setO (i := 2) sc_mixed.nd rfl (.inl rfl) (dn_lst da_nil))
      (ss_cons (ds_for PassesOwn.never rfl (di_seq (dd_v (pv 1))) (dg_name (i := 3) sc_mixed.nd rfl (Or.inl rfl)) (ss_one (ds_ins (pv 2) (dd_call (ok_pull T) hr (by rfl) T.g_pull T.F_pull.kp T.b_pull pass0 (da_cons (dd_v (pv 0)) (da_cons (dd_add (c_b (dd_len (by rfl) T.m_len (dd_b (pv 2)))) (c_b dd_int)) da_nil))) (dd_v (pv 3)))))
      (ss_one (ds_retO (pv 2))))))
    exact ⟨_, tm, fn_d al wn ok dd q (rd_mixed sp)⟩
theorem ok_names (T : Txt K mg) {k : Nat} : FnOk P w K mg base CX0 (k + 3) T.f_names T.fd_names ["_law_bag_here", "_law_count"] (lSp K true sp_names) := by
  refine T.F_names.ok sc_names (fun vs H Q E h => ?_) (fun cdv A outer s H vs Q E hr h => ?_)
  · obtain ⟨W, N0, ds, Pd, _, _, _, dd, sp, _⟩ := h
    rw [dd.len]
    exact ln_names sp
  · obtain ⟨W, N0, ds, Pd, al, wn, ok, dd, sp, q⟩ := h
    have tm : PSs (cxOf CX0 P w K mg base ["_law_bag_here", "_law_count", "_law_letters", "_law_base", "_law_k", "_law_spot_here", "_law_first", "_law_step"] "_law_names" (defScope s_names) T.f_names cdv A outer s H E).nox (defBody s_names) (lS ⟨K, W, N0, H, true⟩ (d_names)) := ((ss_cons (PS.mono (ps_asg (n_c (dn_tup (da_cons dd_str (da_cons dd_str da_nil)))) (PG.mono (pg_tup (by rfl) (PGs.mono (pgs_cons (dg_name (i := 2) sc_names.nd rfl (Or.inr rfl)) (PGs.mono (pgs_cons (dg_name (i := 3) sc_names.nd rfl (Or.inr rfl)) dgs_nil) l_gcons)) l_gcons)) (l_gtup rfl))) l_asg)
      (ss_cons (ds_for PassesOwn.never rfl (di_rng (by rfl) T.m_range (da_cons (dd_call (ok_pull T) hr (by rfl) T.g_pull T.F_pull.kp T.b_pull pass0 (da_cons (dd_v (pv 0)) (da_cons dd_int da_nil))) da_nil)) (dg_name (i := 4) sc_names.nd rfl (Or.inl rfl)) (ss_one (ds_set (i := 3) sc_names.nd rfl (.inr rfl) (dd_add (c_b (dd_v (pv 3))) (c_b (dd_call (ok_of T) hr (by rfl) T.g_of T.F_of.kp T.b_of pass0 (da_cons (dd_v (pv 0)) (da_cons (dd_v (pv 2)) da_nil))))))))
      (ss_cons (ds_if (dt_eq hr (c_b (dd_call (ok_pull T) hr (by rfl) T.g_pull T.F_pull.kp T.b_pull pass0 (da_cons (dd_v (pv 0)) (da_cons dd_int da_nil)))) (c_b dd_int)) (ss_one (ds_retN (PE.mono (pe_lc (own := [("_law_k", 4)]) (by rfl) sc_names.nd (db_rng (by rfl) T.m_range (da_cons (dd_v (pv 1)) da_nil)) (blkOk_by (own := [("_law_k", 4)]) (N := ["_law_bag_here", "_law_count", "_law_letters", "_law_base", "_law_k", "_law_spot_here", "_law_first", "_law_step"]) (sc := defScope s_names) (by decide +kernel)) (fun _ _ _ _ _ => (dg_name (i := 4) sc_names.nd rfl (Or.inl rfl))) (fun _ _ _ _ _ => ts_nil) (fun _ _ _ _ _ => (dd_mul (c_b (dd_ix hr (c_b (dd_v (pv 2))) (c_b (dd_mod (c_b (dd_add (c_b (dd_len (by rfl) T.m_len (c_b (dd_v (pv 3))))) (c_b (dd_mul (c_b dd_int) (c_b (dd_v (pv 4))))))) (c_b dd_int))))) (c_b (dd_add (c_b dd_int) (c_b (dd_mod (c_b (dd_add (c_b (dd_len (by rfl) T.m_len (c_b (dd_v (pv 3))))) (c_b (dd_mul (c_b dd_int) (c_b (dd_v (pv 4))))))) (c_b dd_int)))))))) (l_lc (by simp))))) ss_nil)
      (ss_cons (PS.mono (ps_asg (n_c (dn_tup (da_cons (dd_call (ok_pull T) hr (by rfl) T.g_pull T.F_pull.kp T.b_pull pass0 (da_cons (dd_v (pv 0)) (da_cons (dd_add (c_b (dd_len (by rfl) T.m_len (c_b (dd_v (pv 3))))) (c_b dd_int)) da_nil))) (da_cons (dd_call (ok_pull T) hr (by rfl) T.g_pull T.F_pull.kp T.b_pull pass0 (da_cons (dd_v (pv 0)) (da_cons dd_int da_nil))) (da_cons (dd_call (ok_of T) hr (by rfl) T.g_of T.F_of.kp T.b_of pass0 (da_cons (dd_v (pv 0)) (da_cons (n_c (dn_lst (da_cons dd_int (da_cons dd_int (da_cons dd_int (da_cons dd_int (da_cons dd_int da_nil))))))) da_nil))) da_nil))))) (PG.mono (pg_tup (by rfl) (PGs.mono (pgs_cons (dg_name (i := 5) sc_names.nd rfl (Or.inr rfl)) (PGs.mono (pgs_cons (dg_name (i := 6) sc_names.nd rfl (Or.inr rfl)) (PGs.mono (pgs_cons (dg_name (i := 7) sc_names.nd rfl (Or.inr rfl)) dgs_nil) l_gcons)) l_gcons)) l_gcons)) (l_gtup rfl))) l_asg)
      (ss_one (ds_retN (PE.mono (pe_lc (own := [("_law_k", 4)]) (by rfl) sc_names.nd (db_rng (by rfl) T.m_range (da_cons (dd_v (pv 1)) da_nil)) (blkOk_by (own := [("_law_k", 4)]) (N := ["_law_bag_here", "_law_count", "_law_letters", "_law_base", "_law_k", "_law_spot_here", "_law_first", "_law_step"]) (sc := defScope s_names) (by decide +kernel)) (fun _ _ _ _ _ => (dg_name (i := 4) sc_names.nd rfl (Or.inl rfl))) (fun _ _ _ _ _ => ts_nil) (fun _ _ _ _ _ => (dd_add (c_b (dd_add (c_b (dd_cut (c_b (dd_v (pv 3))) do_none (do_some (dd_v (pv 5))))) (c_b (dd_ix hr (c_b (dd_v (pv 2))) (c_b (dd_mod (c_b (dd_add (c_b (dd_v (pv 6))) (c_b (dd_mul (c_b (dd_v (pv 7))) (c_b (dd_v (pv 4))))))) (c_b dd_int))))))) (c_b (dd_cut (c_b (dd_v (pv 3))) (do_some (dd_v (pv 5))) do_none))))) (l_lc (by simp))))))))))
    exact ⟨_, tm, fn_d al wn ok dd q (rd_names sp)⟩
theorem ok_rectangle (T : Txt K mg) {k : Nat} : FnOk P w K mg base CX0 (k + 2) T.f_rectangle T.fd_rectangle ["_law_bag_here", "_law_scale"] (lSp K true sp_rectangle) := by
  refine T.F_rectangle.ok sc_rectangle (fun vs H Q E h => ?_) (fun cdv A outer s H vs Q E hr h => ?_)
  · obtain ⟨W, N0, ds, Pd, _, _, _, dd, sp, _⟩ := h
    rw [dd.len]
    exact ln_rectangle sp
  · obtain ⟨W, N0, ds, Pd, al, wn, ok, dd, sp, q⟩ := h
    have tm : PSs (cxOf CX0 P w K mg base ["_law_bag_here", "_law_scale", "_law_left", "_law_top", "_law_right", "_law_bottom"] "_law_rectangle" (defScope s_rectangle) T.f_rectangle cdv A outer s H E).nox (defBody s_rectangle) (lS ⟨K, W, N0, H, true⟩ (d_rectangle)) := ((ss_cons (PS.mono (ps_par (i := 2) (j := 3) (by rfl) sc_rectangle.nd rfl rfl (by decide) rfl rfl (pa_cons (dd_sub (c_b (dd_call (ok_pull T) hr (by rfl) T.g_pull T.F_pull.kp T.b_pull pass0 (da_cons (dd_v (pv 0)) (da_cons dd_int da_nil)))) (c_b dd_int)) (pa_cons (dd_sub (c_b (dd_call (ok_pull T) hr (by rfl) T.g_pull T.F_pull.kp T.b_pull pass0 (da_cons (dd_v (pv 0)) (da_cons dd_int da_nil)))) (c_b dd_int)) pa_nil)) (by rfl)) l_par)
      (ss_cons (PS.mono (ps_par (i := 4) (j := 5) (by rfl) sc_rectangle.nd rfl rfl (by decide) rfl rfl (pa_cons (dd_add (c_b (dd_add (c_b (dd_v (pv 2))) (c_b dd_int))) (c_b (dd_call (ok_pull T) hr (by rfl) T.g_pull T.F_pull.kp T.b_pull pass0 (da_cons (dd_v (pv 0)) (da_cons dd_int da_nil))))) (pa_cons (dd_add (c_b (dd_add (c_b (dd_v (pv 3))) (c_b dd_int))) (c_b (dd_call (ok_pull T) hr (by rfl) T.g_pull T.F_pull.kp T.b_pull pass0 (da_cons (dd_v (pv 0)) (da_cons dd_int da_nil))))) pa_nil)) (by rfl)) l_par)
      (ss_one (ds_retN (dn_tup (da_cons (dd_mul (c_b (dd_v (pv 1))) (c_b (dd_v (pv 2)))) (da_cons (dd_mul (c_b (dd_v (pv 1))) (c_b (dd_v (pv 3)))) (da_cons (dd_mul (c_b (dd_v (pv 1))) (c_b (dd_v (pv 4)))) (da_cons (dd_mul (c_b (dd_v (pv 1))) (c_b (dd_v (pv 5)))) da_nil))))))))))
    exact ⟨_, tm, fn_d al wn ok dd q (rd_rectangle sp)⟩
theorem ok_windows (T : Txt K mg) {k : Nat} : FnOk P w K mg base CX0 (k + 4) T.f_windows T.fd_windows ["_law_bag_here", "_law_least", "_law_most"] (lSp K true sp_windows) := by
  refine T.F_windows.ok sc_windows (fun vs H Q E h => ?_) (fun cdv A outer s H vs Q E hr h => ?_)
  · obtain ⟨W, N0, ds, Pd, _, _, _, dd, sp, _⟩ := h
    rw [dd.len]
    exact ln_windows sp
  · obtain ⟨W, N0, ds, Pd, al, wn, ok, dd, sp, q⟩ := h
    have tm : PSs (cxOf CX0 P w K mg base ["_law_bag_here", "_law_least", "_law_most", "_law_names_here", "_law_scale", "_law_way", "_law_one", "_law_rects", "_law_name"] "_law_windows" (defScope s_windows) T.f_windows cdv A outer s H E).nox (defBody s_windows) (lS ⟨K, W, N0, H, true⟩ (d_windows)) := ((ss_cons (ds_set (i := 3) sc_windows.nd rfl (.inl rfl) (n_c (dn_call (ok_mixed T) hr (by rfl) T.g_mixed T.F_mixed.kp T.b_mixed pass0 (da_cons (dd_v (pv 0)) (da_cons (n_c (dn_call (ok_names T) hr (by rfl) T.g_names T.F_names.kp T.b_names pass0 (da_cons (dd_v (pv 0)) (da_cons (dd_add (c_b (dd_v (pv 1))) (c_b (dd_call (ok_pull T) hr (by rfl) T.g_pull T.F_pull.kp T.b_pull pass0 (da_cons (dd_v (pv 0)) (da_cons (dd_add (c_b (dd_sub (c_b (dd_v (pv 2))) (c_b (dd_v (pv 1))))) (c_b dd_int)) da_nil))))) da_nil)))) da_nil)))))
      (ss_cons (PS.mono (ps_asg (n_c (dn_tup (da_cons (dd_call (ok_of T) hr (by rfl) T.g_of T.F_of.kp T.b_of pass0 (da_cons (dd_v (pv 0)) (da_cons (n_c (dn_lst (da_cons dd_int (da_cons dd_int (da_cons dd_int (da_cons (dd_pow (c_b dd_int) (c_b dd_int)) da_nil)))))) da_nil))) (da_cons (dd_call (ok_pull T) hr (by rfl) T.g_pull T.F_pull.kp T.b_pull pass0 (da_cons (dd_v (pv 0)) (da_cons dd_int da_nil))) da_nil)))) (PG.mono (pg_tup (by rfl) (PGs.mono (pgs_cons (dg_name (i := 4) sc_windows.nd rfl (Or.inr rfl)) (PGs.mono (pgs_cons (dg_name (i := 5) sc_windows.nd rfl (Or.inr rfl)) dgs_nil) l_gcons)) l_gcons)) (l_gtup rfl))) l_asg)
      (ss_cons (ds_set (i := 6) sc_windows.nd rfl (.inr rfl) (n_c (dn_call (ok_rectangle T) hr (by rfl) T.g_rectangle T.F_rectangle.kp T.b_rectangle pass0 (da_cons (dd_v (pv 0)) (da_cons (dd_v (pv 4)) da_nil)))))
      (ss_cons (PS.mono (ps_setLc (i := 7) (own := [("_law_name", 8)]) (by rfl) sc_windows.nd rfl rfl (sw_true rfl rfl rfl (by decide +kernel)) (db_seq (c_b (dd_v (pv 3)))) (blkOk_by (own := [("_law_name", 8)]) (N := ["_law_bag_here", "_law_least", "_law_most", "_law_names_here", "_law_scale", "_law_way", "_law_one", "_law_rects", "_law_name"]) (sc := defScope s_windows) (by decide +kernel)) (fun _ _ _ _ _ => (dg_name (i := 8) sc_windows.nd rfl (Or.inl rfl))) (fun _ _ _ _ _ => ts_nil) (fun _ _ _ _ _ => (dd_if (PW.pt (wt_or (dt_eq hr (c_b (dd_v (pv 5))) (c_b dd_int)) (wt_or1 (PW.pt (wt_and (dt_eq hr (c_b (dd_v (pv 5))) (c_b dd_int)) (wt_and1 (dt_eq hr (c_b (dd_call (ok_pull T) hr (by rfl) T.g_pull T.F_pull.kp T.b_pull pass0 (da_cons (dd_v (pv 0)) (da_cons dd_int da_nil)))) (c_b dd_int)))))))) (dd_v (pv 6)) (n_c (dn_call (ok_rectangle T) hr (by rfl) T.g_rectangle T.F_rectangle.kp T.b_rectangle pass0 (da_cons (dd_v (pv 0)) (da_cons (dd_v (pv 4)) da_nil))))))) (l_setF_n (l_lc (by simp))))
      (ss_one (ds_retN (PE.mono (RK.pe_dictZip (by rfl) (by rfl) T.m_dict (by rfl) T.m_zip (da_cons (dd_v (pv 3)) (da_cons (dd_v (pv 7)) da_nil))) (l_dictZip rfl)))))))))
    exact ⟨_, tm, fn_d al wn ok dd q (rd_windows sp)⟩
theorem ok_spot (T : Txt K mg) {k : Nat} : FnOk P w K mg base CX0 (k + 3) T.f_spot T.fd_spot ["_law_bag_here", "_law_rects"] (lSp K true sp_spot) := by
  refine T.F_spot.ok sc_spot (fun vs H Q E h => ?_) (fun cdv A outer s H vs Q E hr h => ?_)
  · obtain ⟨W, N0, ds, Pd, _, _, _, dd, sp, _⟩ := h
    rw [dd.len]
    exact ln_spot sp
  · obtain ⟨W, N0, ds, Pd, al, wn, ok, dd, sp, q⟩ := h
    have tm : PSs (cxOf CX0 P w K mg base ["_law_bag_here", "_law_rects", "_law_left", "_law_top", "_law_right", "_law_bottom", "_law_x"] "_law_spot" (defScope s_spot) T.f_spot cdv A outer s H E).nox (defBody s_spot) (lS ⟨K, W, N0, H, true⟩ (d_spot)) := ((ss_cons (ds_if (dt_eq hr (c_b (dd_call (ok_pull T) hr (by rfl) T.g_pull T.F_pull.kp T.b_pull pass0 (da_cons (dd_v (pv 0)) (da_cons dd_int da_nil)))) (c_b dd_int)) (ss_one (ds_retN (dn_tup (da_cons (dd_sub (c_b (dd_call (ok_pull T) hr (by rfl) T.g_pull T.F_pull.kp T.b_pull pass0 (da_cons (dd_v (pv 0)) (da_cons dd_int da_nil)))) (c_b dd_int)) (da_cons (dd_sub (c_b (dd_call (ok_pull T) hr (by rfl) T.g_pull T.F_pull.kp T.b_pull pass0 (da_cons (dd_v (pv 0)) (da_cons dd_int da_nil)))) (c_b dd_int)) da_nil))))) ss_nil)
      (ss_cons (PS.mono (ps_asg (dd_ix hr (c_b (dd_v (pv 1))) (c_b (dd_call (ok_of T) hr (by rfl) T.g_of T.F_of.kp T.b_of pass0 (da_cons (dd_v (pv 0)) (da_cons (n_c (dn_sort (by rfl) T.m_sorted (c_b (dd_v (pv 1))))) da_nil))))) (PG.mono (pg_tup (by rfl) (PGs.mono (pgs_cons (dg_name (i := 2) sc_spot.nd rfl (Or.inl rfl)) (PGs.mono (pgs_cons (dg_name (i := 3) sc_spot.nd rfl (Or.inl rfl)) (PGs.mono (pgs_cons (dg_name (i := 4) sc_spot.nd rfl (Or.inl rfl)) (PGs.mono (pgs_cons (dg_name (i := 5) sc_spot.nd rfl (Or.inl rfl)) dgs_nil) l_gcons)) l_gcons)) l_gcons)) l_gcons)) (l_gtup rfl))) l_asg)
      (ss_cons (ds_set (i := 6) sc_spot.nd rfl (.inl rfl) (dd_call (ok_of T) hr (by rfl) T.g_of T.F_of.kp T.b_of pass0 (da_cons (dd_v (pv 0)) (da_cons (n_c (dn_lst (da_cons (dd_v (pv 2)) (da_cons (dd_sub (c_b (dd_v (pv 4))) (c_b dd_int)) (da_cons (dd_v (pv 4)) (da_cons (dd_add (c_b (dd_v (pv 2))) (c_b (dd_call (ok_pull T) hr (by rfl) T.g_pull T.F_pull.kp T.b_pull pass0 (da_cons (dd_v (pv 0)) (da_cons (dd_sub (c_b (dd_v (pv 4))) (c_b (dd_v (pv 2)))) da_nil))))) da_nil)))))) da_nil))))
      (ss_one (ds_retN (dn_tup (da_cons (dd_v (pv 6)) (da_cons (dd_call (ok_of T) hr (by rfl) T.g_of T.F_of.kp T.b_of pass0 (da_cons (dd_v (pv 0)) (da_cons (n_c (dn_lst (da_cons (dd_v (pv 3)) (da_cons (dd_sub (c_b (dd_v (pv 5))) (c_b dd_int)) (da_cons (dd_add (c_b (dd_v (pv 3))) (c_b (dd_call (ok_pull T) hr (by rfl) T.g_pull T.F_pull.kp T.b_pull pass0 (da_cons (dd_v (pv 0)) (da_cons (dd_sub (c_b (dd_v (pv 5))) (c_b (dd_v (pv 3)))) da_nil))))) da_nil))))) da_nil))) da_nil)))))))))
    exact ⟨_, tm, fn_d al wn ok dd q (rd_spot sp)⟩
theorem ok_law (T : Txt K mg) : FnOk P w K mg base CX0 6 T.f_law T.fd_law ["_law_script"] (spLaw K) := by
  refine T.F_law.ok sc_law (fun vs H Q E h => ?_) (fun cdv A outer s H vs Q E hr h => ?_)
  · obtain ⟨a, ns, rfl, _⟩ := h
    rfl
  · obtain ⟨a, ns, rfl, hS, hlen, q⟩ := h
    have tm : ∀ W N0 H0, PSs (cxOf CX0 P w K mg base ["_law_script", "_law_bag_here", "_law_turn", "_law_rects", "_law_desk", "_law_order", "_law_orders", "_law_table", "_law_spots", "_law_a", "_law_b", "_law_some", "_law_one", "_law_k", "_law_other", "_law_x", "_law_y", "_law_c"] "law" (defScope s_law) T.f_law cdv A outer s H E).nox ((defBody s_law).drop 1) (lS ⟨K, W, N0, H0, false⟩ (d_law T.C_Desk)) := fun W N0 H0 => ((ss_cons (ds_for PassesOwn.never rfl (di_rng (by rfl) T.m_range (da_cons dd_int da_nil)) (dg_name (i := 2) sc_law.nd rfl (Or.inl rfl)) (ss_cons (ds_set (i := 3) sc_law.nd rfl (.inr rfl) (n_c (dn_call (ok_windows T) hr (by rfl) T.g_windows T.F_windows.kp T.b_windows pass0 (da_cons (dd_v (pv 1)) (da_cons dd_int (da_cons dd_int da_nil))))))
      (ss_cons (PS.mono (ps_asg (n_c (dn_tup (da_cons (PE.mono (pe_make T.M_Desk (ok_Desk___init T) hr (by rfl) T.g_Desk T.b_Desk___init .nil pass0 (da_cons (dd_v (pv 3)) da_nil)) (l_make rfl)) (da_cons (n_c (dn_call (ok_mixed T) hr (by rfl) T.g_mixed T.F_mixed.kp T.b_mixed pass0 (da_cons (dd_v (pv 1)) (da_cons (n_c (dn_sort (by rfl) T.m_sorted (c_b (dd_v (pv 3))))) da_nil)))) da_nil)))) (PG.mono (pg_tup (by rfl) (PGs.mono (pgs_cons (dg_name (i := 4) sc_law.nd rfl (Or.inr rfl)) (PGs.mono (pgs_cons (dg_name (i := 5) sc_law.nd rfl (Or.inr rfl)) dgs_nil) l_gcons)) l_gcons)) (l_gtup rfl))) l_asg)
      (ss_cons (ds_set (i := 6) sc_law.nd rfl (.inr rfl) (dd_add (c_b (n_c (dn_lst (da_cons (dd_v (pv 5)) (da_cons (n_c (dn_call (ok_least_order T) hr (by rfl) T.g_least_order T.F_least_order.kp T.b_least_order pass0 (da_cons (dd_v (pv 4)) (da_cons (dd_v (pv 5)) da_nil)))) da_nil))))) (c_b (n_c (PE.mono (pe_lc (own := [("_law_k", 13)]) (by rfl) sc_law.nd (db_rng (by rfl) T.m_range (da_cons dd_int da_nil)) (blkOk_by (own := [("_law_k", 13)]) (N := ["_law_script", "_law_bag_here", "_law_turn", "_law_rects", "_law_desk", "_law_order", "_law_orders", "_law_table", "_law_spots", "_law_a", "_law_b", "_law_some", "_law_one", "_law_k", "_law_other", "_law_x", "_law_y", "_law_c"]) (sc := defScope s_law) (by decide +kernel)) (fun _ _ _ _ _ => (dg_name (i := 13) sc_law.nd rfl (Or.inl rfl))) (fun _ _ _ _ _ => ts_nil) (fun _ _ _ _ _ => (n_c (dn_call (ok_mixed T) hr (by rfl) T.g_mixed T.F_mixed.kp T.b_mixed pass0 (da_cons (dd_v (pv 1)) (da_cons (dd_v (pv 5)) da_nil)))))) (l_lc (by simp)))))))
      (ss_cons (ds_set (i := 7) sc_law.nd rfl (.inr rfl) (n_c (PE.mono (pe_lc (own := [("_law_one", 12)]) (by rfl) sc_law.nd (db_seq (c_b (dd_v (pv 6)))) (blkOk_by (own := [("_law_one", 12)]) (N := ["_law_script", "_law_bag_here", "_law_turn", "_law_rects", "_law_desk", "_law_order", "_law_orders", "_law_table", "_law_spots", "_law_a", "_law_b", "_law_some", "_law_one", "_law_k", "_law_other", "_law_x", "_law_y", "_law_c"]) (sc := defScope s_law) (by decide +kernel)) (fun _ _ _ _ _ => (dg_name (i := 12) sc_law.nd rfl (Or.inr rfl))) (fun _ _ _ _ _ => ts_nil) (fun _ _ _ _ _ => (n_c (PE.mono (pe_lc (own := [("_law_other", 14)]) (by rfl) sc_law.nd (db_seq (c_b (dd_v (pv 6)))) (blkOk_by (own := [("_law_other", 14)]) (N := ["_law_script", "_law_bag_here", "_law_turn", "_law_rects", "_law_desk", "_law_order", "_law_orders", "_law_table", "_law_spots", "_law_a", "_law_b", "_law_some", "_law_one", "_law_k", "_law_other", "_law_x", "_law_y", "_law_c"]) (by kernel_rfl)) (fun _ _ _ _ _ => (dg_name (i := 14) sc_law.nd rfl (Or.inl rfl))) (fun _ _ _ _ _ => ts_nil) (fun _ _ _ _ _ => (dd_call (ok_alike T) hr (by rfl) T.g_alike T.F_alike.kp T.b_alike pass0 (da_cons (dd_v (pv 4)) (da_cons (dd_v (pv 12)) (da_cons (dd_v (pv 14)) da_nil)))))) (l_lc (by simp)))))) (l_lc (by simp)))))
      (ss_cons (PS.mono (ps_setLc (i := 8) (own := [("_law_k", 13)]) (by rfl) sc_law.nd rfl rfl (sw_true rfl rfl rfl (by decide +kernel)) (db_rng (by rfl) T.m_range (da_cons dd_int da_nil)) (blkOk_by (own := [("_law_k", 13)]) (N := ["_law_script", "_law_bag_here", "_law_turn", "_law_rects", "_law_desk", "_law_order", "_law_orders", "_law_table", "_law_spots", "_law_a", "_law_b", "_law_some", "_law_one", "_law_k", "_law_other", "_law_x", "_law_y", "_law_c"]) (sc := defScope s_law) (by decide +kernel)) (fun _ _ _ _ _ => (dg_name (i := 13) sc_law.nd rfl (Or.inl rfl))) (fun _ _ _ _ _ => ts_nil) (fun _ _ _ _ _ => (n_c (dn_call (ok_spot T) hr (by rfl) T.g_spot T.F_spot.kp T.b_spot pass0 (da_cons (dd_v (pv 1)) (da_cons (dd_v (pv 3)) da_nil)))))) (l_setF_n (l_lc (by simp))))
      (ss_cons (ds_if (dt_isnotB (c_b (dd_ix hr (c_b (dd_ix hr (c_b (dd_v (pv 7))) (c_b dd_int))) (c_b dd_int))) (c_b dd_bl)) (ss_one (ds_ret (by rfl) dd_bl)) ss_nil)
      (ss_one (ds_for PassesOwn.never rfl (di_rng (by rfl) T.m_range (da_cons dd_int da_nil)) (dg_name (i := 9) sc_law.nd rfl (Or.inr rfl)) (ss_one (ds_for PassesOwn.never rfl (di_rng (by rfl) T.m_range (da_cons dd_int da_nil)) (dg_name (i := 10) sc_law.nd rfl (Or.inr rfl)) (ss_cons (ds_if (PW.pt (wt_or (dt_ne hr (c_b (dd_ix hr (c_b (dd_ix hr (c_b (dd_v (pv 7))) (c_b (dd_v (pv 9))))) (c_b (dd_v (pv 10))))) (c_b (dd_ix hr (c_b (dd_ix hr (c_b (dd_v (pv 7))) (c_b (dd_v (pv 10))))) (c_b (dd_v (pv 9)))))) (wt_or1 (dt_val (dd_any (by rfl) T.m_any (c_b (n_c (PE.mono (pe_lc (own := [("_law_c", 17)]) (by rfl) sc_law.nd (db_rng (by rfl) T.m_range (da_cons dd_int da_nil)) (blkOk_by (own := [("_law_c", 17)]) (N := ["_law_script", "_law_bag_here", "_law_turn", "_law_rects", "_law_desk", "_law_order", "_law_orders", "_law_table", "_law_spots", "_law_a", "_law_b", "_law_some", "_law_one", "_law_k", "_law_other", "_law_x", "_law_y", "_law_c"]) (sc := defScope s_law) (by decide +kernel)) (fun _ _ _ _ _ => (dg_name (i := 17) sc_law.nd rfl (Or.inl rfl))) (fun _ _ _ _ _ => ts_nil) (fun _ _ _ _ _ => (dd_and (dd_ix hr (c_b (dd_ix hr (c_b (dd_v (pv 7))) (c_b (dd_v (pv 9))))) (c_b (dd_v (pv 10)))) (dd_and (dd_ix hr (c_b (dd_ix hr (c_b (dd_v (pv 7))) (c_b (dd_v (pv 10))))) (c_b (dd_v (pv 17)))) (dd_one (dd_not (dd_ix hr (c_b (dd_ix hr (c_b (dd_v (pv 7))) (c_b (dd_v (pv 9))))) (c_b (dd_v (pv 17)))))))))) (l_lc (by simp)))))))))) (ss_one (ds_ret (by rfl) dd_bl)) ss_nil)
      (ss_cons (ds_if (PW.pt (wt_and (dt_tru (c_b (dd_ix hr (c_b (dd_ix hr (c_b (dd_v (pv 7))) (c_b (dd_v (pv 9))))) (c_b (dd_v (pv 10)))))) (wt_and1 (dt_ne hr (c_b (n_c (dn_call (ok_tiles T) hr (by rfl) T.g_tiles T.F_tiles.kp T.b_tiles pass0 (da_cons (dd_v (pv 4)) (da_cons (dd_ix hr (c_b (dd_v (pv 6))) (c_b (dd_v (pv 9)))) da_nil))))) (c_b (n_c (dn_call (ok_tiles T) hr (by rfl) T.g_tiles T.F_tiles.kp T.b_tiles pass0 (da_cons (dd_v (pv 4)) (da_cons (dd_ix hr (c_b (dd_v (pv 6))) (c_b (dd_v (pv 10)))) da_nil))))))))) (ss_one (ds_ret (by rfl) dd_bl)) ss_nil)
      (ss_cons (ds_if (dt_ne hr (c_b (dd_ix hr (c_b (dd_ix hr (c_b (dd_v (pv 7))) (c_b (dd_v (pv 9))))) (c_b (dd_v (pv 10))))) (c_b (dd_eq hr (c_b (n_c (dn_call (ok_least_order T) hr (by rfl) T.g_least_order T.F_least_order.kp T.b_least_order pass0 (da_cons (dd_v (pv 4)) (da_cons (dd_ix hr (c_b (dd_v (pv 6))) (c_b (dd_v (pv 9)))) da_nil))))) (c_b (n_c (dn_call (ok_least_order T) hr (by rfl) T.g_least_order T.F_least_order.kp T.b_least_order pass0 (da_cons (dd_v (pv 4)) (da_cons (dd_ix hr (c_b (dd_v (pv 6))) (c_b (dd_v (pv 10)))) da_nil)))))))) (ss_one (ds_ret (by rfl) dd_bl)) ss_nil)
      (ss_cons (PS.mono (ps_setLc (i := 11) (own := [("_law_x", 15), ("_law_y", 16)]) (by rfl) sc_law.nd rfl rfl (sw_true rfl rfl rfl (by decide +kernel)) (db_seq (c_b (dd_v (pv 8)))) (blkOk_by (own := [("_law_x", 15), ("_law_y", 16)]) (N := ["_law_script", "_law_bag_here", "_law_turn", "_law_rects", "_law_desk", "_law_order", "_law_orders", "_law_table", "_law_spots", "_law_a", "_law_b", "_law_some", "_law_one", "_law_k", "_law_other", "_law_x", "_law_y", "_law_c"]) (sc := defScope s_law) (by decide +kernel)) (fun _ _ _ _ _ => (PG.mono (pg_tup (by rfl) (PGs.mono (pgs_cons (dg_name (i := 15) sc_law.nd rfl (Or.inl rfl)) (PGs.mono (pgs_cons (dg_name (i := 16) sc_law.nd rfl (Or.inl rfl)) dgs_nil) l_gcons)) l_gcons)) (l_gtup rfl))) (fun _ _ _ _ _ => ts_nil) (fun _ _ _ _ _ => (dd_eq hr (c_b (dd_call (ok_seen T) hr (by rfl) T.g_seen T.F_seen.kp T.b_seen pass0 (da_cons (dd_v (pv 4)) (da_cons (dd_ix hr (c_b (dd_v (pv 6))) (c_b (dd_v (pv 9)))) (da_cons (dd_v (pv 15)) (da_cons (dd_v (pv 16)) da_nil)))))) (c_b (dd_call (ok_seen T) hr (by rfl) T.g_seen T.F_seen.kp T.b_seen pass0 (da_cons (dd_v (pv 4)) (da_cons (dd_ix hr (c_b (dd_v (pv 6))) (c_b (dd_v (pv 10)))) (da_cons (dd_v (pv 15)) (da_cons (dd_v (pv 16)) da_nil))))))))) (l_setF_n (l_lc (by simp))))
      (ss_one (ds_if (PW.pt (wt_and (dt_tru (c_b (dd_ix hr (c_b (dd_ix hr (c_b (dd_v (pv 7))) (c_b (dd_v (pv 9))))) (c_b (dd_v (pv 10)))))) (wt_and1 (dt_not (dt_val (dd_all (by rfl) T.m_all (c_b (dd_v (pv 11))))))))) (ss_one (ds_ret (by rfl) dd_bl)) ss_nil)))))))))))))))))
      (ss_one (ds_ret (by rfl) dd_bl))))
    refine ⟨_, pss_cons (ps_set (i := 1) sc_law.nd rfl (.inr rfl) (pe_call (okb_bag T) hr (by rfl) T.g_bag T.F_bag.kp T.b_bag .nil pass0 (pa_cons (pv 0) pa_nil))) (pss_ex tm), ?_⟩
    refine ⟨.ref a, rfl, a, ns, rfl, hS, hlen, fun H0 b s0 e0 nb ns0 B0 => law_bag (n := 16) e0 nb B0 q ?_⟩
    exact rd_law T.C_Desk
end
theorem all_mk {l : PySem.W.OpenLaw} {w : World} {K : PySem.W.Frag} {h : Heap} {mg : Str → Option Value} {fa : Addr} (X : K.In h) (G : h.Ns mainGlobals mg) (hfa : mg "law" = some (.ref fa))
    {C_Desk : Addr} (aC_Desk : PySem.W.nsIn K mainGlobals "Desk" = some (some (.ref C_Desk)))
    {f0 : Addr} {od0 an0 : Option Addr} {sl0 : Array (Option Value)} {oc0 kV0 dc0 pm0 cd0 ct0 : Value}
    (a0 : PySem.W.nsIn K mainGlobals "check_wish" = some (some (.ref f0)))
    (l0 : K.lookup f0 = some ⟨oc0, od0, .func (PySem.W.fnOf "check_wish" "check_wish" (defArgs s_check_wish) (defBody s_check_wish) (defScope s_check_wish) .none kV0 dc0 pm0 an0 cd0 ct0), sl0⟩) (c0 : PySem.W.codeIn K cd0 "check_wish" = true) (k0 : PySem.W.keepIn K (.ref f0) = true)
    {f1 : Addr} {od1 an1 : Option Addr} {sl1 : Array (Option Value)} {oc1 kV1 dc1 pm1 cd1 ct1 : Value}
    (a1 : PySem.W.nsIn K mainGlobals "is_pair" = some (some (.ref f1)))
    (l1 : K.lookup f1 = some ⟨oc1, od1, .func (PySem.W.fnOf "is_pair" "is_pair" (defArgs s_is_pair) (defBody s_is_pair) (defScope s_is_pair) .none kV1 dc1 pm1 an1 cd1 ct1), sl1⟩) (c1 : PySem.W.codeIn K cd1 "is_pair" = true) (k1 : PySem.W.keepIn K (.ref f1) = true)
    {f2 : Addr} {od2 an2 : Option Addr} {sl2 : Array (Option Value)} {oc2 kV2 dc2 pm2 cd2 ct2 : Value}
    (a2 : PySem.W.nsIn K mainGlobals "places" = some (some (.ref f2)))
    (l2 : K.lookup f2 = some ⟨oc2, od2, .func (PySem.W.fnOf "places" "places" (defArgs s_places) (defBody s_places) (defScope s_places) .none kV2 dc2 pm2 an2 cd2 ct2), sl2⟩) (c2 : PySem.W.codeIn K cd2 "places" = true) (k2 : PySem.W.keepIn K (.ref f2) = true)
    {f3 : Addr} {od3 an3 : Option Addr} {sl3 : Array (Option Value)} {oc3 kV3 dc3 pm3 cd3 ct3 : Value}
    (a3 : PySem.W.nsIn K mainGlobals "settled" = some (some (.ref f3)))
    (l3 : K.lookup f3 = some ⟨oc3, od3, .func (PySem.W.fnOf "settled" "settled" (defArgs s_settled) (defBody s_settled) (defScope s_settled) .none kV3 dc3 pm3 an3 cd3 ct3), sl3⟩) (c3 : PySem.W.codeIn K cd3 "settled" = true) (k3 : PySem.W.keepIn K (.ref f3) = true)
    {f4 : Addr} {od4 an4 : Option Addr} {sl4 : Array (Option Value)} {oc4 kV4 dc4 pm4 cd4 ct4 : Value}
    (a4 : PySem.W.nsIn K mainGlobals "least_keeping" = some (some (.ref f4)))
    (l4 : K.lookup f4 = some ⟨oc4, od4, .func (PySem.W.fnOf "least_keeping" "least_keeping" (defArgs s_least_keeping) (defBody s_least_keeping) (defScope s_least_keeping) .none kV4 dc4 pm4 an4 cd4 ct4), sl4⟩) (c4 : PySem.W.codeIn K cd4 "least_keeping" = true) (k4 : PySem.W.keepIn K (.ref f4) = true)
    {f5 : Addr} {od5 an5 : Option Addr} {sl5 : Array (Option Value)} {oc5 kV5 dc5 pm5 cd5 ct5 : Value}
    (a5 : PySem.W.nsIn K mainGlobals "check_order" = some (some (.ref f5)))
    (l5 : K.lookup f5 = some ⟨oc5, od5, .func (PySem.W.fnOf "check_order" "check_order" (defArgs s_check_order) (defBody s_check_order) (defScope s_check_order) .none kV5 dc5 pm5 an5 cd5 ct5), sl5⟩) (c5 : PySem.W.codeIn K cd5 "check_order" = true) (k5 : PySem.W.keepIn K (.ref f5) = true)
    {f6 : Addr} {od6 an6 : Option Addr} {sl6 : Array (Option Value)} {oc6 kV6 dc6 pm6 cd6 ct6 : Value}
    (a6 : PySem.W.nsIn K mainGlobals "is_order" = some (some (.ref f6)))
    (l6 : K.lookup f6 = some ⟨oc6, od6, .func (PySem.W.fnOf "is_order" "is_order" (defArgs s_is_order) (defBody s_is_order) (defScope s_is_order) .none kV6 dc6 pm6 an6 cd6 ct6), sl6⟩) (c6 : PySem.W.codeIn K cd6 "is_order" = true) (k6 : PySem.W.keepIn K (.ref f6) = true)
    {f7 : Addr} {od7 an7 : Option Addr} {sl7 : Array (Option Value)} {oc7 kV7 dc7 pm7 cd7 ct7 : Value}
    (a7 : PySem.W.nsIn K mainGlobals "wish_of" = some (some (.ref f7)))
    (l7 : K.lookup f7 = some ⟨oc7, od7, .func (PySem.W.fnOf "wish_of" "wish_of" (defArgs s_wish_of) (defBody s_wish_of) (defScope s_wish_of) .none kV7 dc7 pm7 an7 cd7 ct7), sl7⟩) (c7 : PySem.W.codeIn K cd7 "wish_of" = true) (k7 : PySem.W.keepIn K (.ref f7) = true)
    {f8 : Addr} {od8 an8 : Option Addr} {sl8 : Array (Option Value)} {oc8 kV8 dc8 pm8 cd8 ct8 : Value}
    (a8 : PySem.W.nsIn K mainGlobals "alike" = some (some (.ref f8)))
    (l8 : K.lookup f8 = some ⟨oc8, od8, .func (PySem.W.fnOf "alike" "alike" (defArgs s_alike) (defBody s_alike) (defScope s_alike) .none kV8 dc8 pm8 an8 cd8 ct8), sl8⟩) (c8 : PySem.W.codeIn K cd8 "alike" = true) (k8 : PySem.W.keepIn K (.ref f8) = true)
    {f9 : Addr} {od9 an9 : Option Addr} {sl9 : Array (Option Value)} {oc9 kV9 dc9 pm9 cd9 ct9 : Value}
    (a9 : PySem.W.nsIn K mainGlobals "least_order" = some (some (.ref f9)))
    (l9 : K.lookup f9 = some ⟨oc9, od9, .func (PySem.W.fnOf "least_order" "least_order" (defArgs s_least_order) (defBody s_least_order) (defScope s_least_order) .none kV9 dc9 pm9 an9 cd9 ct9), sl9⟩) (c9 : PySem.W.codeIn K cd9 "least_order" = true) (k9 : PySem.W.keepIn K (.ref f9) = true)
    {f10 : Addr} {od10 an10 : Option Addr} {sl10 : Array (Option Value)} {oc10 kV10 dc10 pm10 cd10 ct10 : Value}
    (a10 : PySem.W.nsIn K mainGlobals "is_rectangle" = some (some (.ref f10)))
    (l10 : K.lookup f10 = some ⟨oc10, od10, .func (PySem.W.fnOf "is_rectangle" "is_rectangle" (defArgs s_is_rectangle) (defBody s_is_rectangle) (defScope s_is_rectangle) .none kV10 dc10 pm10 an10 cd10 ct10), sl10⟩) (c10 : PySem.W.codeIn K cd10 "is_rectangle" = true) (k10 : PySem.W.keepIn K (.ref f10) = true)
    {f11 : Addr} {od11 an11 : Option Addr} {sl11 : Array (Option Value)} {oc11 kV11 dc11 pm11 cd11 ct11 : Value}
    (a11 : PySem.W.nsIn K mainGlobals "has_four_numbers" = some (some (.ref f11)))
    (l11 : K.lookup f11 = some ⟨oc11, od11, .func (PySem.W.fnOf "has_four_numbers" "has_four_numbers" (defArgs s_has_four_numbers) (defBody s_has_four_numbers) (defScope s_has_four_numbers) .none kV11 dc11 pm11 an11 cd11 ct11), sl11⟩) (c11 : PySem.W.codeIn K cd11 "has_four_numbers" = true) (k11 : PySem.W.keepIn K (.ref f11) = true)
    {f12 : Addr} {od12 an12 : Option Addr} {sl12 : Array (Option Value)} {oc12 kV12 dc12 pm12 cd12 ct12 : Value}
    (a12 : PySem.W.nsIn K mainGlobals "covers" = some (some (.ref f12)))
    (l12 : K.lookup f12 = some ⟨oc12, od12, .func (PySem.W.fnOf "covers" "covers" (defArgs s_covers) (defBody s_covers) (defScope s_covers) .none kV12 dc12 pm12 an12 cd12 ct12), sl12⟩) (c12 : PySem.W.codeIn K cd12 "covers" = true) (k12 : PySem.W.keepIn K (.ref f12) = true)
    {f13 : Addr} {od13 an13 : Option Addr} {sl13 : Array (Option Value)} {oc13 kV13 dc13 pm13 cd13 ct13 : Value}
    (a13 : PySem.W.nsIn K mainGlobals "common" = some (some (.ref f13)))
    (l13 : K.lookup f13 = some ⟨oc13, od13, .func (PySem.W.fnOf "common" "common" (defArgs s_common) (defBody s_common) (defScope s_common) .none kV13 dc13 pm13 an13 cd13 ct13), sl13⟩) (c13 : PySem.W.codeIn K cd13 "common" = true) (k13 : PySem.W.keepIn K (.ref f13) = true)
    {f14 : Addr} {od14 an14 : Option Addr} {sl14 : Array (Option Value)} {oc14 kV14 dc14 pm14 cd14 ct14 : Value}
    (a14 : PySem.W.nsIn K mainGlobals "is_name" = some (some (.ref f14)))
    (l14 : K.lookup f14 = some ⟨oc14, od14, .func (PySem.W.fnOf "is_name" "is_name" (defArgs s_is_name) (defBody s_is_name) (defScope s_is_name) .none kV14 dc14 pm14 an14 cd14 ct14), sl14⟩) (c14 : PySem.W.codeIn K cd14 "is_name" = true) (k14 : PySem.W.keepIn K (.ref f14) = true)
    {f15 : Addr} {od15 an15 : Option Addr} {sl15 : Array (Option Value)} {oc15 kV15 dc15 pm15 cd15 ct15 : Value}
    (a15 : PySem.W.nsIn K mainGlobals "check_windows" = some (some (.ref f15)))
    (l15 : K.lookup f15 = some ⟨oc15, od15, .func (PySem.W.fnOf "check_windows" "check_windows" (defArgs s_check_windows) (defBody s_check_windows) (defScope s_check_windows) .none kV15 dc15 pm15 an15 cd15 ct15), sl15⟩) (c15 : PySem.W.codeIn K cd15 "check_windows" = true) (k15 : PySem.W.keepIn K (.ref f15) = true)
    {f16 : Addr} {od16 an16 : Option Addr} {sl16 : Array (Option Value)} {oc16 kV16 dc16 pm16 cd16 ct16 : Value}
    (a16 : PySem.W.nsIn K mainGlobals "covering" = some (some (.ref f16)))
    (l16 : K.lookup f16 = some ⟨oc16, od16, .func (PySem.W.fnOf "covering" "covering" (defArgs s_covering) (defBody s_covering) (defScope s_covering) .none kV16 dc16 pm16 an16 cd16 ct16), sl16⟩) (c16 : PySem.W.codeIn K cd16 "covering" = true) (k16 : PySem.W.keepIn K (.ref f16) = true)
    {f17 : Addr} {od17 an17 : Option Addr} {sl17 : Array (Option Value)} {oc17 kV17 dc17 pm17 cd17 ct17 : Value}
    (a17 : PySem.W.nsIn K mainGlobals "seen" = some (some (.ref f17)))
    (l17 : K.lookup f17 = some ⟨oc17, od17, .func (PySem.W.fnOf "seen" "seen" (defArgs s_seen) (defBody s_seen) (defScope s_seen) .none kV17 dc17 pm17 an17 cd17 ct17), sl17⟩) (c17 : PySem.W.codeIn K cd17 "seen" = true) (k17 : PySem.W.keepIn K (.ref f17) = true)
    {f18 : Addr} {od18 an18 : Option Addr} {sl18 : Array (Option Value)} {oc18 kV18 dc18 pm18 cd18 ct18 : Value}
    (a18 : PySem.W.nsIn K mainGlobals "top_window" = some (some (.ref f18)))
    (l18 : K.lookup f18 = some ⟨oc18, od18, .func (PySem.W.fnOf "top_window" "top_window" (defArgs s_top_window) (defBody s_top_window) (defScope s_top_window) .none kV18 dc18 pm18 an18 cd18 ct18), sl18⟩) (c18 : PySem.W.codeIn K cd18 "top_window" = true) (k18 : PySem.W.keepIn K (.ref f18) = true)
    {f19 : Addr} {od19 an19 : Option Addr} {sl19 : Array (Option Value)} {oc19 kV19 dc19 pm19 cd19 ct19 : Value}
    (a19 : PySem.W.nsIn K mainGlobals "tiles" = some (some (.ref f19)))
    (l19 : K.lookup f19 = some ⟨oc19, od19, .func (PySem.W.fnOf "tiles" "tiles" (defArgs s_tiles) (defBody s_tiles) (defScope s_tiles) .none kV19 dc19 pm19 an19 cd19 ct19), sl19⟩) (c19 : PySem.W.codeIn K cd19 "tiles" = true) (k19 : PySem.W.keepIn K (.ref f19) = true)
    {f20 : Addr} {od20 an20 : Option Addr} {sl20 : Array (Option Value)} {oc20 kV20 dc20 pm20 cd20 ct20 : Value}
    (a20 : PySem.W.nsIn K mainGlobals "band_runs" = some (some (.ref f20)))
    (l20 : K.lookup f20 = some ⟨oc20, od20, .func (PySem.W.fnOf "band_runs" "band_runs" (defArgs s_band_runs) (defBody s_band_runs) (defScope s_band_runs) .none kV20 dc20 pm20 an20 cd20 ct20), sl20⟩) (c20 : PySem.W.codeIn K cd20 "band_runs" = true) (k20 : PySem.W.keepIn K (.ref f20) = true)
    {f21 : Addr} {od21 an21 : Option Addr} {sl21 : Array (Option Value)} {oc21 kV21 dc21 pm21 cd21 ct21 : Value}
    (a21 : PySem.W.nsIn K mainGlobals "_law_bag" = some (some (.ref f21)))
    (l21 : K.lookup f21 = some ⟨oc21, od21, .func (PySem.W.fnOf "_law_bag" "_law_bag" (defArgs s_bag) (defBody s_bag) (defScope s_bag) .none kV21 dc21 pm21 an21 cd21 ct21), sl21⟩) (c21 : PySem.W.codeIn K cd21 "_law_bag" = true) (k21 : PySem.W.keepIn K (.ref f21) = true)
    {f22 : Addr} {od22 an22 : Option Addr} {sl22 : Array (Option Value)} {oc22 kV22 dc22 pm22 cd22 ct22 : Value}
    (a22 : PySem.W.nsIn K mainGlobals "_law_pull" = some (some (.ref f22)))
    (l22 : K.lookup f22 = some ⟨oc22, od22, .func (PySem.W.fnOf "_law_pull" "_law_pull" (defArgs s_pull) (defBody s_pull) (defScope s_pull) .none kV22 dc22 pm22 an22 cd22 ct22), sl22⟩) (c22 : PySem.W.codeIn K cd22 "_law_pull" = true) (k22 : PySem.W.keepIn K (.ref f22) = true)
    {f23 : Addr} {od23 an23 : Option Addr} {sl23 : Array (Option Value)} {oc23 kV23 dc23 pm23 cd23 ct23 : Value}
    (a23 : PySem.W.nsIn K mainGlobals "_law_of" = some (some (.ref f23)))
    (l23 : K.lookup f23 = some ⟨oc23, od23, .func (PySem.W.fnOf "_law_of" "_law_of" (defArgs s_of) (defBody s_of) (defScope s_of) .none kV23 dc23 pm23 an23 cd23 ct23), sl23⟩) (c23 : PySem.W.codeIn K cd23 "_law_of" = true) (k23 : PySem.W.keepIn K (.ref f23) = true)
    {f24 : Addr} {od24 an24 : Option Addr} {sl24 : Array (Option Value)} {oc24 kV24 dc24 pm24 cd24 ct24 : Value}
    (a24 : PySem.W.nsIn K mainGlobals "_law_mixed" = some (some (.ref f24)))
    (l24 : K.lookup f24 = some ⟨oc24, od24, .func (PySem.W.fnOf "_law_mixed" "_law_mixed" (defArgs s_mixed) (defBody s_mixed) (defScope s_mixed) .none kV24 dc24 pm24 an24 cd24 ct24), sl24⟩) (c24 : PySem.W.codeIn K cd24 "_law_mixed" = true) (k24 : PySem.W.keepIn K (.ref f24) = true)
    {f25 : Addr} {od25 an25 : Option Addr} {sl25 : Array (Option Value)} {oc25 kV25 dc25 pm25 cd25 ct25 : Value}
    (a25 : PySem.W.nsIn K mainGlobals "_law_names" = some (some (.ref f25)))
    (l25 : K.lookup f25 = some ⟨oc25, od25, .func (PySem.W.fnOf "_law_names" "_law_names" (defArgs s_names) (defBody s_names) (defScope s_names) .none kV25 dc25 pm25 an25 cd25 ct25), sl25⟩) (c25 : PySem.W.codeIn K cd25 "_law_names" = true) (k25 : PySem.W.keepIn K (.ref f25) = true)
    {f26 : Addr} {od26 an26 : Option Addr} {sl26 : Array (Option Value)} {oc26 kV26 dc26 pm26 cd26 ct26 : Value}
    (a26 : PySem.W.nsIn K mainGlobals "_law_rectangle" = some (some (.ref f26)))
    (l26 : K.lookup f26 = some ⟨oc26, od26, .func (PySem.W.fnOf "_law_rectangle" "_law_rectangle" (defArgs s_rectangle) (defBody s_rectangle) (defScope s_rectangle) .none kV26 dc26 pm26 an26 cd26 ct26), sl26⟩) (c26 : PySem.W.codeIn K cd26 "_law_rectangle" = true) (k26 : PySem.W.keepIn K (.ref f26) = true)
    {f27 : Addr} {od27 an27 : Option Addr} {sl27 : Array (Option Value)} {oc27 kV27 dc27 pm27 cd27 ct27 : Value}
    (a27 : PySem.W.nsIn K mainGlobals "_law_windows" = some (some (.ref f27)))
    (l27 : K.lookup f27 = some ⟨oc27, od27, .func (PySem.W.fnOf "_law_windows" "_law_windows" (defArgs s_windows) (defBody s_windows) (defScope s_windows) .none kV27 dc27 pm27 an27 cd27 ct27), sl27⟩) (c27 : PySem.W.codeIn K cd27 "_law_windows" = true) (k27 : PySem.W.keepIn K (.ref f27) = true)
    {f28 : Addr} {od28 an28 : Option Addr} {sl28 : Array (Option Value)} {oc28 kV28 dc28 pm28 cd28 ct28 : Value}
    (a28 : PySem.W.nsIn K mainGlobals "_law_spot" = some (some (.ref f28)))
    (l28 : K.lookup f28 = some ⟨oc28, od28, .func (PySem.W.fnOf "_law_spot" "_law_spot" (defArgs s_spot) (defBody s_spot) (defScope s_spot) .none kV28 dc28 pm28 an28 cd28 ct28), sl28⟩) (c28 : PySem.W.codeIn K cd28 "_law_spot" = true) (k28 : PySem.W.keepIn K (.ref f28) = true)
    {f29 : Addr} {od29 an29 : Option Addr} {sl29 : Array (Option Value)} {oc29 kV29 dc29 pm29 cd29 ct29 : Value}
    (a29 : PySem.W.nsIn K mainGlobals "law" = some (some (.ref f29)))
    (l29 : K.lookup f29 = some ⟨oc29, od29, .func (PySem.W.fnOf "law" "law" (defArgs s_law) (defBody s_law) (defScope s_law) .none kV29 dc29 pm29 an29 cd29 ct29), sl29⟩) (c29 : PySem.W.codeIn K cd29 "law" = true) (k29 : PySem.W.keepIn K (.ref f29) = true)
    {f30 : Addr} {od30 an30 : Option Addr} {sl30 : Array (Option Value)} {oc30 kV30 dc30 pm30 cd30 ct30 : Value}
    (a30 : PySem.W.findIn K (.ref C_Desk) "__init__" = some (some (.ref f30))) (i30 : PySem.W.isFn K (.ref f30) = true)
    (l30 : K.lookup f30 = some ⟨oc30, od30, .func (PySem.W.fnOf "__init__" "Desk.__init__" (defArgs s_Desk___init) (defBody s_Desk___init) (defScope s_Desk___init) .none kV30 dc30 pm30 an30 cd30 ct30), sl30⟩) (c30 : PySem.W.codeIn K cd30 "Desk.__init__" = true) (k30 : PySem.W.keepIn K (.ref f30) = true)
    {f31 : Addr} {od31 an31 : Option Addr} {sl31 : Array (Option Value)} {oc31 kV31 dc31 pm31 cd31 ct31 : Value}
    (a31 : PySem.W.findIn K (.ref C_Desk) "names" = some (some (.ref f31))) (i31 : PySem.W.isFn K (.ref f31) = true)
    (l31 : K.lookup f31 = some ⟨oc31, od31, .func (PySem.W.fnOf "names" "Desk.names" (defArgs s_Desk_names) (defBody s_Desk_names) (defScope s_Desk_names) .none kV31 dc31 pm31 an31 cd31 ct31), sl31⟩) (c31 : PySem.W.codeIn K cd31 "Desk.names" = true) (k31 : PySem.W.keepIn K (.ref f31) = true)
    {f32 : Addr} {od32 an32 : Option Addr} {sl32 : Array (Option Value)} {oc32 kV32 dc32 pm32 cd32 ct32 : Value}
    (a32 : PySem.W.findIn K (.ref C_Desk) "rectangle" = some (some (.ref f32))) (i32 : PySem.W.isFn K (.ref f32) = true)
    (l32 : K.lookup f32 = some ⟨oc32, od32, .func (PySem.W.fnOf "rectangle" "Desk.rectangle" (defArgs s_Desk_rectangle) (defBody s_Desk_rectangle) (defScope s_Desk_rectangle) .none kV32 dc32 pm32 an32 cd32 ct32), sl32⟩) (c32 : PySem.W.codeIn K cd32 "Desk.rectangle" = true) (k32 : PySem.W.keepIn K (.ref f32) = true)
    {f33 : Addr} {od33 an33 : Option Addr} {sl33 : Array (Option Value)} {oc33 kV33 dc33 pm33 cd33 ct33 : Value}
    (a33 : PySem.W.findIn K (.ref C_Desk) "overlap" = some (some (.ref f33))) (i33 : PySem.W.isFn K (.ref f33) = true)
    (l33 : K.lookup f33 = some ⟨oc33, od33, .func (PySem.W.fnOf "overlap" "Desk.overlap" (defArgs s_Desk_overlap) (defBody s_Desk_overlap) (defScope s_Desk_overlap) .none kV33 dc33 pm33 an33 cd33 ct33), sl33⟩) (c33 : PySem.W.codeIn K cd33 "Desk.overlap" = true) (k33 : PySem.W.keepIn K (.ref f33) = true)
    {f34 : Addr} {od34 an34 : Option Addr} {sl34 : Array (Option Value)} {oc34 kV34 dc34 pm34 cd34 ct34 : Value}
    (a34 : PySem.W.findIn K (.ref C_Desk) "pairs" = some (some (.ref f34))) (i34 : PySem.W.isFn K (.ref f34) = true)
    (l34 : K.lookup f34 = some ⟨oc34, od34, .func (PySem.W.fnOf "pairs" "Desk.pairs" (defArgs s_Desk_pairs) (defBody s_Desk_pairs) (defScope s_Desk_pairs) .none kV34 dc34 pm34 an34 cd34 ct34), sl34⟩) (c34 : PySem.W.codeIn K cd34 "Desk.pairs" = true) (k34 : PySem.W.keepIn K (.ref f34) = true)
    (pg_Desk : PySem.W.plainGet K C_Desk Str.empty = true) (hd_Desk : PySem.W.hasDictIn K C_Desk = true) (po_Desk : PySem.W.plainOver K C_Desk = true) (sa_Desk : PySem.W.findIn K (.ref C_Desk) "__setattr__" = some (some (.builtin "object.__setattr__"))) (mk_Desk : PySem.W.makesIn K C_Desk = true) (kc_Desk : PySem.W.keepIn K (.ref C_Desk) = true)
    (nf_Desk_windows : PySem.W.findIn K (.ref C_Desk) "windows" = some none)
    (ic1_Desk : PySem.W.findIn K (.ref C_Desk) "__class__" = some (some (.builtin "object.__class__"))) (ic2_Desk : PySem.W.specialIn K (.builtin "object.__class__") "__get__" = some (some (.builtin "getset_descriptor.__get__"))) (ic3_Desk : PySem.W.takesIn K (.builtin "object.__class__") = some true) (ic4_Desk : PySem.W.mroIn K C_Desk (.type "object") = some true) (ic5_Desk : PySem.W.isClsIn K C_Desk = true) (ic6_Desk : PySem.W.typeIn K (.ref C_Desk) = some (.type "type"))
    (ne_Desk : PySem.W.findIn K (.ref C_Desk) "__ne__" = some (some (.builtin "object.__ne__")))
    (sub_dict_Desk : PySem.W.subIn K (.type "dict") (.ref C_Desk) = some false)
    (sub_list_Desk : PySem.W.subIn K (.type "list") (.ref C_Desk) = some false)
    {t_MOST_COORDINATE : Tok} (n_MOST_COORDINATE : PySem.W.nsIn K mainGlobals "MOST_COORDINATE" = some (some (.int 1000000000 t_MOST_COORDINATE)))
    {t_MOST_WINDOWS : Tok} (n_MOST_WINDOWS : PySem.W.nsIn K mainGlobals "MOST_WINDOWS" = some (some (.int 24 t_MOST_WINDOWS)))
    {t_MOST_LETTERS : Tok} (n_MOST_LETTERS : PySem.W.nsIn K mainGlobals "MOST_LETTERS" = some (some (.int 6 t_MOST_LETTERS)))
    {t_LETTERS : Tok} (n_LETTERS : PySem.W.nsIn K mainGlobals "LETTERS" = some (some (.str "abcdefghijklmnopqrstuvwxyz" t_LETTERS)))
    (z_all : PySem.W.nsIn K mainGlobals "all" = some none)
    (z_any : PySem.W.nsIn K mainGlobals "any" = some none)
    (z_dict : PySem.W.nsIn K mainGlobals "dict" = some none)
    (z_enumerate : PySem.W.nsIn K mainGlobals "enumerate" = some none)
    (z_int : PySem.W.nsIn K mainGlobals "int" = some none)
    (z_isinstance : PySem.W.nsIn K mainGlobals "isinstance" = some none)
    (z_len : PySem.W.nsIn K mainGlobals "len" = some none)
    (z_list : PySem.W.nsIn K mainGlobals "list" = some none)
    (z_max : PySem.W.nsIn K mainGlobals "max" = some none)
    (z_min : PySem.W.nsIn K mainGlobals "min" = some none)
    (z_range : PySem.W.nsIn K mainGlobals "range" = some none)
    (z_sorted : PySem.W.nsIn K mainGlobals "sorted" = some none)
    (z_str : PySem.W.nsIn K mainGlobals "str" = some none)
    (z_tuple : PySem.W.nsIn K mainGlobals "tuple" = some none)
    (z_zip : PySem.W.nsIn K mainGlobals "zip" = some none)
    : ∃ fd : FuncData, (∀ (s : Shared) (v : Value), BindsTo s fd ⟨[v], []⟩ [("_law_script", v)]) ∧ ∀ base : Heap, K.In base → base.Ns mainGlobals mg → FnOk l.prog w K mg base CX0 6 fa fd ["_law_script"] (DL.spLaw K) := by
  have e := hfa.symm.trans (PySem.W.mg_of X G a29)
  cases e
  have F0 := fun_mk (st := s_check_wish) l0 c0 k0
  have b0 := F0.binds (ps := ["names", "wish"]) fun _ _ _ _ _ _ us hl => match us, hl with | [_, _], _ => rfl
  have F1 := fun_mk (st := s_is_pair) l1 c1 k1
  have b1 := F1.binds (ps := ["known", "item"]) fun _ _ _ _ _ _ us hl => match us, hl with | [_, _], _ => rfl
  have F2 := fun_mk (st := s_places) l2 c2 k2
  have b2 := F2.binds (ps := ["order"]) fun _ _ _ _ _ _ us hl => match us, hl with | [_], _ => rfl
  have F3 := fun_mk (st := s_settled) l3 c3 k3
  have b3 := F3.binds (ps := ["names", "wish"]) fun _ _ _ _ _ _ us hl => match us, hl with | [_, _], _ => rfl
  have F4 := fun_mk (st := s_least_keeping) l4 c4 k4
  have b4 := F4.binds (ps := ["names", "wish"]) fun _ _ _ _ _ _ us hl => match us, hl with | [_, _], _ => rfl
  have F5 := fun_mk (st := s_check_order) l5 c5 k5
  have b5 := F5.binds (ps := ["desk", "order"]) fun _ _ _ _ _ _ us hl => match us, hl with | [_, _], _ => rfl
  have F6 := fun_mk (st := s_is_order) l6 c6 k6
  have b6 := F6.binds (ps := ["desk", "order"]) fun _ _ _ _ _ _ us hl => match us, hl with | [_, _], _ => rfl
  have F7 := fun_mk (st := s_wish_of) l7 c7 k7
  have b7 := F7.binds (ps := ["desk", "order"]) fun _ _ _ _ _ _ us hl => match us, hl with | [_, _], _ => rfl
  have F8 := fun_mk (st := s_alike) l8 c8 k8
  have b8 := F8.binds (ps := ["desk", "one", "other"]) fun _ _ _ _ _ _ us hl => match us, hl with | [_, _, _], _ => rfl
  have F9 := fun_mk (st := s_least_order) l9 c9 k9
  have b9 := F9.binds (ps := ["desk", "order"]) fun _ _ _ _ _ _ us hl => match us, hl with | [_, _], _ => rfl
  have F10 := fun_mk (st := s_is_rectangle) l10 c10 k10
  have b10 := F10.binds (ps := ["rectangle"]) fun _ _ _ _ _ _ us hl => match us, hl with | [_], _ => rfl
  have F11 := fun_mk (st := s_has_four_numbers) l11 c11 k11
  have b11 := F11.binds (ps := ["value"]) fun _ _ _ _ _ _ us hl => match us, hl with | [_], _ => rfl
  have F12 := fun_mk (st := s_covers) l12 c12 k12
  have b12 := F12.binds (ps := ["rectangle", "x", "y"]) fun _ _ _ _ _ _ us hl => match us, hl with | [_, _, _], _ => rfl
  have F13 := fun_mk (st := s_common) l13 c13 k13
  have b13 := F13.binds (ps := ["one", "other"]) fun _ _ _ _ _ _ us hl => match us, hl with | [_, _], _ => rfl
  have F14 := fun_mk (st := s_is_name) l14 c14 k14
  have b14 := F14.binds (ps := ["text"]) fun _ _ _ _ _ _ us hl => match us, hl with | [_], _ => rfl
  have F15 := fun_mk (st := s_check_windows) l15 c15 k15
  have b15 := F15.binds (ps := ["windows"]) fun _ _ _ _ _ _ us hl => match us, hl with | [_], _ => rfl
  have F16 := fun_mk (st := s_covering) l16 c16 k16
  have b16 := F16.binds (ps := ["desk", "names", "x", "y"]) fun _ _ _ _ _ _ us hl => match us, hl with | [_, _, _, _], _ => rfl
  have F17 := fun_mk (st := s_seen) l17 c17 k17
  have b17 := F17.binds (ps := ["desk", "order", "x", "y"]) fun _ _ _ _ _ _ us hl => match us, hl with | [_, _, _, _], _ => rfl
  have F18 := fun_mk (st := s_top_window) l18 c18 k18
  have b18 := F18.binds (ps := ["desk", "order", "x", "y"]) fun _ _ _ _ _ _ us hl => match us, hl with | [_, _, _, _], _ => rfl
  have F19 := fun_mk (st := s_tiles) l19 c19 k19
  have b19 := F19.binds (ps := ["desk", "order"]) fun _ _ _ _ _ _ us hl => match us, hl with | [_, _], _ => rfl
  have F20 := fun_mk (st := s_band_runs) l20 c20 k20
  have b20 := F20.binds (ps := ["desk", "order", "columns", "y"]) fun _ _ _ _ _ _ us hl => match us, hl with | [_, _, _, _], _ => rfl
  have F21 := fun_mk (st := s_bag) l21 c21 k21
  have b21 := F21.binds (ps := ["_law_script"]) fun _ _ _ _ _ _ us hl => match us, hl with | [_], _ => rfl
  have F22 := fun_mk (st := s_pull) l22 c22 k22
  have b22 := F22.binds (ps := ["_law_bag_here", "_law_amount"]) fun _ _ _ _ _ _ us hl => match us, hl with | [_, _], _ => rfl
  have F23 := fun_mk (st := s_of) l23 c23 k23
  have b23 := F23.binds (ps := ["_law_bag_here", "_law_things"]) fun _ _ _ _ _ _ us hl => match us, hl with | [_, _], _ => rfl
  have F24 := fun_mk (st := s_mixed) l24 c24 k24
  have b24 := F24.binds (ps := ["_law_bag_here", "_law_things"]) fun _ _ _ _ _ _ us hl => match us, hl with | [_, _], _ => rfl
  have F25 := fun_mk (st := s_names) l25 c25 k25
  have b25 := F25.binds (ps := ["_law_bag_here", "_law_count"]) fun _ _ _ _ _ _ us hl => match us, hl with | [_, _], _ => rfl
  have F26 := fun_mk (st := s_rectangle) l26 c26 k26
  have b26 := F26.binds (ps := ["_law_bag_here", "_law_scale"]) fun _ _ _ _ _ _ us hl => match us, hl with | [_, _], _ => rfl
  have F27 := fun_mk (st := s_windows) l27 c27 k27
  have b27 := F27.binds (ps := ["_law_bag_here", "_law_least", "_law_most"]) fun _ _ _ _ _ _ us hl => match us, hl with | [_, _, _], _ => rfl
  have F28 := fun_mk (st := s_spot) l28 c28 k28
  have b28 := F28.binds (ps := ["_law_bag_here", "_law_rects"]) fun _ _ _ _ _ _ us hl => match us, hl with | [_, _], _ => rfl
  have F29 := fun_mk (st := s_law) l29 c29 k29
  have b29 := F29.binds (ps := ["_law_script"]) fun _ _ _ _ _ _ us hl => match us, hl with | [_], _ => rfl
  have F30 := fun_mk (st := s_Desk___init) l30 c30 k30
  have b30 := F30.binds (ps := ["self", "windows"]) fun _ _ _ _ _ _ us hl => match us, hl with | [_, _], _ => rfl
  have F31 := fun_mk (st := s_Desk_names) l31 c31 k31
  have b31 := F31.binds (ps := ["self"]) fun _ _ _ _ _ _ us hl => match us, hl with | [_], _ => rfl
  have F32 := fun_mk (st := s_Desk_rectangle) l32 c32 k32
  have b32 := F32.binds (ps := ["self", "name"]) fun _ _ _ _ _ _ us hl => match us, hl with | [_, _], _ => rfl
  have F33 := fun_mk (st := s_Desk_overlap) l33 c33 k33
  have b33 := F33.binds (ps := ["self", "one", "other"]) fun _ _ _ _ _ _ us hl => match us, hl with | [_, _, _], _ => rfl
  have F34 := fun_mk (st := s_Desk_pairs) l34 c34 k34
  have b34 := F34.binds (ps := ["self"]) fun _ _ _ _ _ _ us hl => match us, hl with | [_], _ => rfl
  let T : Txt K mg := { f_check_wish := _, fd_check_wish := _, F_check_wish := F0, b_check_wish := b0, g_check_wish := PySem.W.mg_of X G a0, f_is_pair := _, fd_is_pair := _, F_is_pair := F1, b_is_pair := b1, g_is_pair := PySem.W.mg_of X G a1, f_places := _, fd_places := _, F_places := F2, b_places := b2, g_places := PySem.W.mg_of X G a2, f_settled := _, fd_settled := _, F_settled := F3, b_settled := b3, g_settled := PySem.W.mg_of X G a3, f_least_keeping := _, fd_least_keeping := _, F_least_keeping := F4, b_least_keeping := b4, g_least_keeping := PySem.W.mg_of X G a4, f_check_order := _, fd_check_order := _, F_check_order := F5, b_check_order := b5, g_check_order := PySem.W.mg_of X G a5, f_is_order := _, fd_is_order := _, F_is_order := F6, b_is_order := b6, g_is_order := PySem.W.mg_of X G a6, f_wish_of := _, fd_wish_of := _, F_wish_of := F7, b_wish_of := b7, g_wish_of := PySem.W.mg_of X G a7, f_alike := _, fd_alike := _, F_alike := F8, b_alike := b8, g_alike := PySem.W.mg_of X G a8, f_least_order := _, fd_least_order := _, F_least_order := F9, b_least_order := b9, g_least_order := PySem.W.mg_of X G a9, f_is_rectangle := _, fd_is_rectangle := _, F_is_rectangle := F10, b_is_rectangle := b10, g_is_rectangle := PySem.W.mg_of X G a10, f_has_four_numbers := _, fd_has_four_numbers := _, F_has_four_numbers := F11, b_has_four_numbers := b11, g_has_four_numbers := PySem.W.mg_of X G a11, f_covers := _, fd_covers := _, F_covers := F12, b_covers := b12, g_covers := PySem.W.mg_of X G a12, f_common := _, fd_common := _, F_common := F13, b_common := b13, g_common := PySem.W.mg_of X G a13, f_is_name := _, fd_is_name := _, F_is_name := F14, b_is_name := b14, g_is_name := PySem.W.mg_of X G a14, f_check_windows := _, fd_check_windows := _, F_check_windows := F15, b_check_windows := b15, g_check_windows := PySem.W.mg_of X G a15, f_covering := _, fd_covering := _, F_covering := F16, b_covering := b16, g_covering := PySem.W.mg_of X G a16, f_seen := _, fd_seen := _, F_seen := F17, b_seen := b17, g_seen := PySem.W.mg_of X G a17, f_top_window := _, fd_top_window := _, F_top_window := F18, b_top_window := b18, g_top_window := PySem.W.mg_of X G a18, f_tiles := _, fd_tiles := _, F_tiles := F19, b_tiles := b19, g_tiles := PySem.W.mg_of X G a19, f_band_runs := _, fd_band_runs := _, F_band_runs := F20, b_band_runs := b20, g_band_runs := PySem.W.mg_of X G a20, f_bag := _, fd_bag := _, F_bag := F21, b_bag := b21, g_bag := PySem.W.mg_of X G a21, f_pull := _, fd_pull := _, F_pull := F22, b_pull := b22, g_pull := PySem.W.mg_of X G a22, f_of := _, fd_of := _, F_of := F23, b_of := b23, g_of := PySem.W.mg_of X G a23, f_mixed := _, fd_mixed := _, F_mixed := F24, b_mixed := b24, g_mixed := PySem.W.mg_of X G a24, f_names := _, fd_names := _, F_names := F25, b_names := b25, g_names := PySem.W.mg_of X G a25, f_rectangle := _, fd_rectangle := _, F_rectangle := F26, b_rectangle := b26, g_rectangle := PySem.W.mg_of X G a26, f_windows := _, fd_windows := _, F_windows := F27, b_windows := b27, g_windows := PySem.W.mg_of X G a27, f_spot := _, fd_spot := _, F_spot := F28, b_spot := b28, g_spot := PySem.W.mg_of X G a28, f_law := _, fd_law := _, F_law := F29, b_law := b29, g_law := PySem.W.mg_of X G a29, f_Desk___init := _, fd_Desk___init := _, F_Desk___init := F30, b_Desk___init := b30, s_Desk___init := a30, i_Desk___init := i30, M_Desk___init := ⟨a30, i30, k30⟩, f_Desk_names := _, fd_Desk_names := _, F_Desk_names := F31, b_Desk_names := b31, s_Desk_names := a31, i_Desk_names := i31, M_Desk_names := ⟨a31, i31, k31⟩, f_Desk_rectangle := _, fd_Desk_rectangle := _, F_Desk_rectangle := F32, b_Desk_rectangle := b32, s_Desk_rectangle := a32, i_Desk_rectangle := i32, M_Desk_rectangle := ⟨a32, i32, k32⟩, f_Desk_overlap := _, fd_Desk_overlap := _, F_Desk_overlap := F33, b_Desk_overlap := b33, s_Desk_overlap := a33, i_Desk_overlap := i33, M_Desk_overlap := ⟨a33, i33, k33⟩, f_Desk_pairs := _, fd_Desk_pairs := _, F_Desk_pairs := F34, b_Desk_pairs := b34, s_Desk_pairs := a34, i_Desk_pairs := i34, M_Desk_pairs := ⟨a34, i34, k34⟩, C_Desk := C_Desk, cl_Desk := ⟨pg_Desk, hd_Desk, po_Desk, sa_Desk⟩, M_Desk := ⟨mk_Desk, a30, i30, kc_Desk⟩, g_Desk := PySem.W.mg_of X G aC_Desk, n_Desk_windows := nf_Desk_windows, ic_Desk := ⟨⟨pg_Desk, hd_Desk, po_Desk, sa_Desk⟩, ic1_Desk, ic2_Desk, ic3_Desk, ic4_Desk, kit_me _ _⟩, ne_Desk := ne_Desk, mo_Desk := ic4_Desk, sub_dict_Desk := sub_dict_Desk, kit_dict_Desk := kit_sub ic5_Desk ic6_Desk sub_dict_Desk, sub_list_Desk := sub_list_Desk, kit_list_Desk := kit_sub ic5_Desk ic6_Desk sub_list_Desk, t_MOST_COORDINATE := t_MOST_COORDINATE, c_MOST_COORDINATE := PySem.W.mg_of X G n_MOST_COORDINATE, t_MOST_WINDOWS := t_MOST_WINDOWS, c_MOST_WINDOWS := PySem.W.mg_of X G n_MOST_WINDOWS, t_MOST_LETTERS := t_MOST_LETTERS, c_MOST_LETTERS := PySem.W.mg_of X G n_MOST_LETTERS, t_LETTERS := t_LETTERS, c_LETTERS := PySem.W.mg_of X G n_LETTERS, m_all := PySem.W.mg_none_of X G z_all, m_any := PySem.W.mg_none_of X G z_any, m_dict := PySem.W.mg_none_of X G z_dict, m_enumerate := PySem.W.mg_none_of X G z_enumerate, m_int := PySem.W.mg_none_of X G z_int, m_isinstance := PySem.W.mg_none_of X G z_isinstance, m_len := PySem.W.mg_none_of X G z_len, m_list := PySem.W.mg_none_of X G z_list, m_max := PySem.W.mg_none_of X G z_max, m_min := PySem.W.mg_none_of X G z_min, m_range := PySem.W.mg_none_of X G z_range, m_sorted := PySem.W.mg_none_of X G z_sorted, m_str := PySem.W.mg_none_of X G z_str, m_tuple := PySem.W.mg_none_of X G z_tuple, m_zip := PySem.W.mg_none_of X G z_zip }
  exact ⟨(PySem.W.fnOf "law" "law" (defArgs s_law) (defBody s_law) (defScope s_law) .none kV29 dc29 pm29 an29 cd29 ct29), fun s v => .of_eq rfl, fun base _ _ => ok_law T⟩
end RK
open PySem PySem.W PyProof.Rows
set_option maxHeartbeats 0 in
theorem PySem.Challenge.cw_raisekeys_k09_whole_alike_orders_look_al_holds : PySem.Challenge.rw_raisekeys_k09_whole_alike_orders_look_al.Holds := by
  w_on; o_law; k_head; (case hw => w_witness2)
  k_fill
  refine L2.walk_of (l := PySem.Challenge.rw_raisekeys_k09_whole_alike_orders_look_al) (n := 63) (k := 6) (x := "_law_script") (CX := fun _ => L2.CX0) (sp := fun w => DL.spLaw _) rfl (by decide) rfl ⟨rfl, by decide, by decide⟩ (fun w h Y => PySem.W.kIn_of Y) ?F (fun _ _ a ns hl _ hS => ⟨a, ns, rfl, hS, hl, fun _ => rfl⟩) (fun _ _ _ _ _ h => h)
  case F =>
    intro w mg fa h KX G hmg
    refine' RK.all_mk KX G hmg ?aC_Desk ?a0 ?l0 ?c0 ?k0 ?a1 ?l1 ?c1 ?k1 ?a2 ?l2 ?c2 ?k2 ?a3 ?l3 ?c3 ?k3 ?a4 ?l4 ?c4 ?k4 ?a5 ?l5 ?c5 ?k5 ?a6 ?l6 ?c6 ?k6 ?a7 ?l7 ?c7 ?k7 ?a8 ?l8 ?c8 ?k8 ?a9 ?l9 ?c9 ?k9 ?a10 ?l10 ?c10 ?k10 ?a11 ?l11 ?c11 ?k11 ?a12 ?l12 ?c12 ?k12 ?a13 ?l13 ?c13 ?k13 ?a14 ?l14 ?c14 ?k14 ?a15 ?l15 ?c15 ?k15 ?a16 ?l16 ?c16 ?k16 ?a17 ?l17 ?c17 ?k17 ?a18 ?l18 ?c18 ?k18 ?a19 ?l19 ?c19 ?k19 ?a20 ?l20 ?c20 ?k20 ?a21 ?l21 ?c21 ?k21 ?a22 ?l22 ?c22 ?k22 ?a23 ?l23 ?c23 ?k23 ?a24 ?l24 ?c24 ?k24 ?a25 ?l25 ?c25 ?k25 ?a26 ?l26 ?c26 ?k26 ?a27 ?l27 ?c27 ?k27 ?a28 ?l28 ?c28 ?k28 ?a29 ?l29 ?c29 ?k29 ?a30 ?i30 ?l30 ?c30 ?k30 ?a31 ?i31 ?l31 ?c31 ?k31 ?a32 ?i32 ?l32 ?c32 ?k32 ?a33 ?i33 ?l33 ?c33 ?k33 ?a34 ?i34 ?l34 ?c34 ?k34 ?pg_Desk ?hd_Desk ?po_Desk ?sa_Desk ?mk_Desk ?kc_Desk ?nf_Desk_windows ?ic1_Desk ?ic2_Desk ?ic3_Desk ?ic4_Desk ?ic5_Desk ?ic6_Desk ?ne_Desk ?sub_dict_Desk ?sub_list_Desk ?n_MOST_COORDINATE ?n_MOST_WINDOWS ?n_MOST_LETTERS ?n_LETTERS ?z_all ?z_any ?z_dict ?z_enumerate ?z_int ?z_isinstance ?z_len ?z_list ?z_max ?z_min ?z_range ?z_sorted ?z_str ?z_tuple ?z_zip
    (case aC_Desk => k_is)
    (case a0 => k_is)
    (case l0 => k_is)
    (case c0 => k_is)
    (case k0 => k_is)
    (case a1 => k_is)
    (case l1 => k_is)
    (case c1 => k_is)
    (case k1 => k_is)
    (case a2 => k_is)
    (case l2 => k_is)
    (case c2 => k_is)
    (case k2 => k_is)
    (case a3 => k_is)
    (case l3 => k_is)
    (case c3 => k_is)
    (case k3 => k_is)
    (case a4 => k_is)
    (case l4 => k_is)
    (case c4 => k_is)
    (case k4 => k_is)
    (case a5 => k_is)
    (case l5 => k_is)
    (case c5 => k_is)
    (case k5 => k_is)
    (case a6 => k_is)
    (case l6 => k_is)
    (case c6 => k_is)
    (case k6 => k_is)
    (case a7 => k_is)
    (case l7 => k_is)
    (case c7 => k_is)
    (case k7 => k_is)
    (case a8 => k_is)
    (case l8 => k_is)
    (case c8 => k_is)
    (case k8 => k_is)
    (case a9 => k_is)
    (case l9 => k_is)
    (case c9 => k_is)
    (case k9 => k_is)
    (case a10 => k_is)
    (case l10 => k_is)
    (case c10 => k_is)
    (case k10 => k_is)
    (case a11 => k_is)
    (case l11 => k_is)
    (case c11 => k_is)
    (case k11 => k_is)
    (case a12 => k_is)
    (case l12 => k_is)
    (case c12 => k_is)
    (case k12 => k_is)
    (case a13 => k_is)
    (case l13 => k_is)
    (case c13 => k_is)
    (case k13 => k_is)
    (case a14 => k_is)
    (case l14 => k_is)
    (case c14 => k_is)
    (case k14 => k_is)
    (case a15 => k_is)
    (case l15 => k_is)
    (case c15 => k_is)
    (case k15 => k_is)
    (case a16 => k_is)
    (case l16 => k_is)
    (case c16 => k_is)
    (case k16 => k_is)
    (case a17 => k_is)
    (case l17 => k_is)
    (case c17 => k_is)
    (case k17 => k_is)
    (case a18 => k_is)
    (case l18 => k_is)
    (case c18 => k_is)
    (case k18 => k_is)
    (case a19 => k_is)
    (case l19 => k_is)
    (case c19 => k_is)
    (case k19 => k_is)
    (case a20 => k_is)
    (case l20 => k_is)
    (case c20 => k_is)
    (case k20 => k_is)
    (case a21 => k_is)
    (case l21 => k_is)
    (case c21 => k_is)
    (case k21 => k_is)
    (case a22 => k_is)
    (case l22 => k_is)
    (case c22 => k_is)
    (case k22 => k_is)
    (case a23 => k_is)
    (case l23 => k_is)
    (case c23 => k_is)
    (case k23 => k_is)
    (case a24 => k_is)
    (case l24 => k_is)
    (case c24 => k_is)
    (case k24 => k_is)
    (case a25 => k_is)
    (case l25 => k_is)
    (case c25 => k_is)
    (case k25 => k_is)
    (case a26 => k_is)
    (case l26 => k_is)
    (case c26 => k_is)
    (case k26 => k_is)
    (case a27 => k_is)
    (case l27 => k_is)
    (case c27 => k_is)
    (case k27 => k_is)
    (case a28 => k_is)
    (case l28 => k_is)
    (case c28 => k_is)
    (case k28 => k_is)
    (case a29 => k_is)
    (case l29 => k_is)
    (case c29 => k_is)
    (case k29 => k_is)
    (case a30 => k_is)
    (case i30 => k_is)
    (case l30 => k_is)
    (case c30 => k_is)
    (case k30 => k_is)
    (case a31 => k_is)
    (case i31 => k_is)
    (case l31 => k_is)
    (case c31 => k_is)
    (case k31 => k_is)
    (case a32 => k_is)
    (case i32 => k_is)
    (case l32 => k_is)
    (case c32 => k_is)
    (case k32 => k_is)
    (case a33 => k_is)
    (case i33 => k_is)
    (case l33 => k_is)
    (case c33 => k_is)
    (case k33 => k_is)
    (case a34 => k_is)
    (case i34 => k_is)
    (case l34 => k_is)
    (case c34 => k_is)
    (case k34 => k_is)
    (case pg_Desk => k_is)
    (case hd_Desk => k_is)
    (case po_Desk => k_is)
    (case sa_Desk => k_is)
    (case mk_Desk => k_is)
    (case kc_Desk => k_is)
    (case nf_Desk_windows => k_is)
    (case ic1_Desk => k_is)
    (case ic2_Desk => k_is)
    (case ic3_Desk => k_is)
    (case ic4_Desk => k_is)
    (case ic5_Desk => k_is)
    (case ic6_Desk => k_is)
    (case ne_Desk => k_is)
    (case sub_dict_Desk => k_is)
    (case sub_list_Desk => k_is)
    (case n_MOST_COORDINATE => k_is)
    (case n_MOST_WINDOWS => k_is)
    (case n_MOST_LETTERS => k_is)
    (case n_LETTERS => k_is)
    (case z_all => k_is)
    (case z_any => k_is)
    (case z_dict => k_is)
    (case z_enumerate => k_is)
    (case z_int => k_is)
    (case z_isinstance => k_is)
    (case z_len => k_is)
    (case z_list => k_is)
    (case z_max => k_is)
    (case z_min => k_is)
    (case z_range => k_is)
    (case z_sorted => k_is)
    (case z_str => k_is)
    (case z_tuple => k_is)
    (case z_zip => k_is)
