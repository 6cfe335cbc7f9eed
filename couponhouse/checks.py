"""What several calls look at before they do something."""

from couponhouse.refusals import GRANTED, NO_COUPON, NO_TICKET, WRONG_NUMBER


def check_digit(form):
    return form % 7


def is_right(number):
    return number % 10 == check_digit(number // 10)


def ticket_refusal(house, number):
    if not is_right(number):
        return WRONG_NUMBER
    if number not in house.ticket_of:
        return NO_TICKET
    return GRANTED


def coupon_refusal(house, number, n):
    refused = ticket_refusal(house, number)
    if refused != GRANTED:
        return refused
    if n >= len(house.ticket_of[number].coupons):
        return NO_COUPON
    return GRANTED


def may_all_be_issued(house, coupons, last):
    return house.today <= last and all([may_be_issued(house, coupon, last) for coupon in coupons])


def may_be_issued(house, coupon, last):
    if coupon.origin == coupon.goal:
        return False
    return house.today <= coupon.day <= last and coupon.flight() not in house.gone
